import PyProof.Rows.All
import Wide.All
import OpenK.AllK
import Wide.FinOn
import Lean
import PyProof.EqAt
import PyProof.EqKinds
import PyProof.TupleCall
import PySem.Challenge.RW_rowbreadth_k13_forms
set_option Elab.async false
set_option linter.all false
set_option maxRecDepth 100000
set_option maxHeartbeats 4000000
namespace PySem.W.Fast
def tw15060252581001779810 : Unit := ()
def tw3520798719798235805 : Unit := ()
def tw14103811597867618447 : Unit := ()
def tw15549269257772605704 : Unit := ()
def tw890665470772607768 : Unit := ()
def tw12426383123111448009 : Unit := ()
def tw6864478435087664647 : Unit := ()
def tw7017884734869929590 : Unit := ()
def tw5320483225892786296 : Unit := ()
def tw6946386106816483324 : Unit := ()
def tw1192601391498487879 : Unit := ()
def tw5345133631314083356 : Unit := ()
def tw14783154569660571102 : Unit := ()
def tw1359792079126905611 : Unit := ()
def tw600342928239244878 : Unit := ()
def tw13325533287549788702 : Unit := ()
def tw16725510228955517278 : Unit := ()
def tw3249949580990129576 : Unit := ()
def tw17467472317078106217 : Unit := ()
def tw11498062211873905702 : Unit := ()
def tw12537760024575671594 : Unit := ()
def tw5317483886134639252 : Unit := ()
def tw10621726225860105741 : Unit := ()
def tw7307438274318203142 : Unit := ()
def tw13901120624705686664 : Unit := ()
def tw13918692871222687981 : Unit := ()
def tw1840647335246420289 : Unit := ()
def tw5181909649302198529 : Unit := ()
def tw11982796840996508482 : Unit := ()
def tw2662694572671970592 : Unit := ()
def tw14630809511661934177 : Unit := ()
def tw3798375098940884202 : Unit := ()
def tw10487094470422406460 : Unit := ()
def tw7169362319615534672 : Unit := ()
def tw4012803594478948001 : Unit := ()
def tw16466581905020098687 : Unit := ()
def tw6206682138614350312 : Unit := ()
def tw10784231311620924966 : Unit := ()
def tw16850974152479621026 : Unit := ()
def tw15177329802240992306 : Unit := ()
def tw10107391331137574989 : Unit := ()
def tw3027723451210131620 : Unit := ()
def tw10761758145869408857 : Unit := ()
def tw12688277570644412212 : Unit := ()
def tw9077494416820098256 : Unit := ()
def tw17984266836541788451 : Unit := ()
def tw3469134744079389947 : Unit := ()
def tw15174367148097759685 : Unit := ()
def tw13083526579933926620 : Unit := ()
def tw10375266506463612840 : Unit := ()
def tw15950314007580000624 : Unit := ()
def tw10561319639919529891 : Unit := ()
def tw724812967858545666 : Unit := ()
def tw8422551843493127080 : Unit := ()
def tw5708910198716106367 : Unit := ()
def tw3464972293286021916 : Unit := ()
def tw18348427379285621452 : Unit := ()
def tw11441514827276625091 : Unit := ()
def tw3657976135532475047 : Unit := ()
def tw1455830508816171291 : Unit := ()
def tw18133911164934631455 : Unit := ()
def tw8129279331282836338 : Unit := ()
def tw769576160438005634 : Unit := ()
def tw16493858004620777837 : Unit := ()
def tw13176806611726602524 : Unit := ()
def tw17482038626366255827 : Unit := ()
def tw12870146177501379089 : Unit := ()
def tw15860860532739779863 : Unit := ()
def tw15775778219745524564 : Unit := ()
def tw2925047417279773282 : Unit := ()
def tw669261421492558874 : Unit := ()
def tw718561520939951935 : Unit := ()
def tw14983345455969655441 : Unit := ()
def tw15588053048166195467 : Unit := ()
def tw558224051788281257 : Unit := ()
def tw12057469981270440291 : Unit := ()
def tw687366401292992441 : Unit := ()
def tw8567637797347081145 : Unit := ()
def tw6769021911021218448 : Unit := ()
def tw17964236354563832070 : Unit := ()
def tw12203513676939406903 : Unit := ()
def tw15036213278766790142 : Unit := ()
def tw12860144061761915103 : Unit := ()
def tw14906989527483479904 : Unit := ()
end PySem.W.Fast
namespace L2
open PySem PySem.Spec PyProof.Rows
abbrev Key := Sum Int Str
def keyIs : Key → Value → Bool
  | .inl k, v => Value.isInt k v
  | .inr x, v => Value.isStrOf x v
def keyH (w : World) : Key → Int
  | .inl k => hashInt k
  | .inr x => hashStr w x
theorem keyIs_shape : ∀ {k : Key} {v : Value}, keyIs k v = true → (∃ i t, k = Sum.inl i ∧ v = Value.int i t) ∨ (∃ x t, k = Sum.inr x ∧ v = Value.str x t)
  | .inl i, v, h => by
    obtain ⟨t, e⟩ := Value.isInt_shape (k := i) (v := v) h
    exact .inl ⟨i, t, rfl, e⟩
  | .inr x, v, h => by
    obtain ⟨t, e⟩ := Value.isStrOf_shape (x := x) (v := v) h
    exact .inr ⟨x, t, rfl, e⟩
theorem key_ll (a b : Int) : decide ((Sum.inl a : Key) = Sum.inl b) = (a == b) := by
  by_cases e : a = b
  · subst e; simp
  · have h : ¬ (Sum.inl a : Key) = Sum.inl b := fun q => e (Sum.inl.inj q)
    rw [decide_eq_false h]
    exact (beq_eq_false_iff_ne.mpr e).symm
theorem key_rr (a b : Str) : decide ((Sum.inr a : Key) = Sum.inr b) = decide (a = b) := by
  by_cases e : a = b
  · subst e; simp
  · have h : ¬ (Sum.inr a : Key) = Sum.inr b := fun q => e (Sum.inr.inj q)
    rw [decide_eq_false h, decide_eq_false e]
theorem key_lr (a : Int) (b : Str) : decide ((Sum.inl a : Key) = Sum.inr b) = false := decide_eq_false (fun q => nomatch q)
theorem key_rl (a : Str) (b : Int) : decide ((Sum.inr a : Key) = Sum.inl b) = false := decide_eq_false (fun q => nomatch q)
def mixKind (prog : Program) (w : World) : PySem.KeyKind prog w Key where
  is := keyIs
  hash := keyH w
  inj := fun v a b ha hb => by
    rcases keyIs_shape ha with ⟨i, t, rfl, rfl⟩ | ⟨x, t, rfl, rfl⟩
    · rcases keyIs_shape hb with ⟨j, u, rfl, e⟩ | ⟨y, u, rfl, e⟩
      · injection e with e1 _; rw [e1]
      · exact nomatch e
    · rcases keyIs_shape hb with ⟨j, u, rfl, e⟩ | ⟨y, u, rfl, e⟩
      · exact nomatch e
      · injection e with e1 _; rw [e1]
  byValue := fun k v h => by
    rcases keyIs_shape h with ⟨i, t, rfl, rfl⟩ | ⟨x, t, rfl, rfl⟩ <;> rfl
  pyHash := fun hv h => by
    rcases keyIs_shape hv with ⟨i, t, rfl, rfl⟩ | ⟨x, t, rfl, rfl⟩
    · exact wpAny_pyHash_int h
    · exact wpAny_pyHash_str h
  eqBool := fun hu hv h => by
    rcases keyIs_shape hu with ⟨i, t, rfl, rfl⟩ | ⟨x, t, rfl, rfl⟩
    · rcases keyIs_shape hv with ⟨j, u, rfl, rfl⟩ | ⟨y, u, rfl, rfl⟩
      · rw [key_ll] at h; exact wpAny_eqBool_int h
      · rw [key_lr] at h; exact SeqAt.EqAt.int_str i t y u _ _ _ _ h
    · rcases keyIs_shape hv with ⟨j, u, rfl, rfl⟩ | ⟨y, u, rfl, rfl⟩
      · rw [key_rl] at h; exact SeqAt.EqAt.str_int x t j u _ _ _ _ h
      · rw [key_rr] at h; exact wpAny_eqBool_str h
  «strs» := fun k x t v h => by
    rcases keyIs_shape h with ⟨i, u, rfl, e⟩ | ⟨y, u, rfl, e⟩
    · exact nomatch e
    · injection e with e1 _
      subst e1
      cases v <;> rfl
end L2
namespace L2
open PySem PySem.Spec PyProof.Rows
inductive V where
  | non | bl (b : Bool) | int (i : Int) | str (x : Str) | byt (b : Array UInt8) | flt (b : UInt64) | ref (a : Addr) | ty (n : String)
  deriving DecidableEq
def RelV : V → Value → Prop
  | .non, u => u = Value.none
  | .bl b, u => u = Value.bool b
  | .int i, u => ∃ t, u = Value.int i t
  | .str x, u => ∃ t, u = Value.str x t
  | .byt b, u => ∃ t, u = Value.bytes b t
  | .flt b, u => ∃ t, u = Value.float b t
  | .ref a, u => u = Value.ref a
  | .ty n, u => u = Value.type n
abbrev Vals : List V → List Value → Prop := Paired RelV
theorem Vals.length {xs : List V} {us : List Value} (r : Vals xs us) : xs.length = us.length := Paired.length r
theorem Vals.get : ∀ {xs : List V} {us : List Value} {i : Nat} {x : V}, Vals xs us → xs[i]? = some x → ∃ u, us[i]? = some u ∧ RelV x u
  | _, _, _, _, .nil, e => by simp at e
  | _, _, 0, _, .cons r _, e => by simp at e; subst e; exact ⟨_, rfl, r⟩
  | _, _, i + 1, x, .cons _ t, e => by
    obtain ⟨u, h1, h2⟩ := Vals.get (i := i) (x := x) t (by simpa using e)
    exact ⟨u, by simpa using h1, h2⟩
theorem Vals.set {x : V} {u : Value} (r : RelV x u) : ∀ {xs : List V} {us : List Value} (i : Nat), Vals xs us → Vals (xs.set i x) (us.set i u)
  | _, _, _, .nil => .nil
  | _, _, 0, .cons _ t => .cons r t
  | _, _, i + 1, .cons q t => .cons q (Vals.set r i t)
theorem Vals.append : ∀ {xs ys : List V} {us ws : List Value}, Vals xs us → Vals ys ws → Vals (xs ++ ys) (us ++ ws)
  | _, _, _, _, .nil, s => s
  | _, _, _, _, .cons r t, s => .cons r (Vals.append t s)
theorem Vals.take : ∀ {xs : List V} {us : List Value} (n : Nat), Vals xs us → Vals (xs.take n) (us.take n)
  | _, _, 0, _ => .nil
  | _, _, _ + 1, .nil => .nil
  | _, _, n + 1, .cons r t => .cons r (Vals.take n t)
theorem Vals.drop : ∀ {xs : List V} {us : List Value} (n : Nat), Vals xs us → Vals (xs.drop n) (us.drop n)
  | _, _, 0, r => r
  | _, _, _ + 1, .nil => .nil
  | _, _, n + 1, .cons _ t => Vals.drop n t
theorem Vals.none_of : ∀ {xs : List V} {us : List Value} {i : Nat}, Vals xs us → xs[i]? = none → us[i]? = none := fun {xs us i} r e => by
  have h1 := r.length
  have h2 : xs.length ≤ i := List.getElem?_eq_none_iff.mp e
  exact List.getElem?_eq_none_iff.mpr (by omega)
def RelO : Option V → Option Value → Prop
  | some v, some u => RelV v u
  | none, none => True
  | _, _ => False
def KV {κ : Type} : List (κ × V) → List (κ × Value) → Prop := Paired fun (p : κ × V) (q : κ × Value) => p.1 = q.1 ∧ RelV p.2 q.2
def kV : Key → V
  | .inl i => .int i
  | .inr x => .str x
inductive HO where
    | lst (xs : List V)
    | tup (xs : List V)
    | dK (kvs : List (Key × V)) | dT (kvs : List (List Key × V))
    | set (S : Int → Bool) (n : Nat)
    | ins (C dx : Addr) (fs : List (Str × V))
    | own (x : Addr)
    | xd (fs : List (Str × V))
    | met (f x : Addr)
    | rng (lo hi : Int)
    | frz (o : Obj) (u : HO)
    | tbl (ps : Array Value)
    | ext (φ : Heap → Prop)
abbrev Hp := Addr → Option HO
def upd (H : Hp) (a : Addr) (o : HO) : Hp := fun b => if b = a then some o else H b
theorem upd_same {H : Hp} {a : Addr} {o : HO} : upd H a o a = some o := by unfold upd; rw [if_pos rfl]
theorem upd_ne {H : Hp} {a b : Addr} {o : HO} (h : b ≠ a) : upd H a o b = H b := by unfold upd; rw [if_neg h]
theorem ne_of_none {H : Hp} {a b : Addr} {o : HO} (h : H a = some o) (h' : H b = none) : a ≠ b := by
  intro e; subst e; rw [h] at h'; cases h'
section
variable (P : Program) (w : World)
def ObjOk (H : Hp) (h : Heap) (a : Addr) : HO → Prop
  | .lst xs => xs.length ≤ sizeLine ∧ ∃ (its : List Value) (n : Nat), Vals xs its ∧ h.get? a = some { cls := .type "list", data := .seq its.toArray n }
  | .tup xs => xs.length ≤ sizeLine ∧ ∃ its : List Value, Vals xs its ∧ IsTup h a its.toArray
  | .dK kvs => kvs.length ≤ sizeLine ∧ (a == sysModules) = false ∧ ∃ vs, KV kvs vs ∧ h.DictOf (mixKind P w) a vs
  | .dT kvs => kvs.length ≤ sizeLine ∧ (a == sysModules) = false ∧ ∃ xs : List (List Key × Addr × Value),
      Paired (fun (p : List Key × V) (q : List Key × Addr × Value) => p.1 = q.1 ∧ H q.2.1 = some (.tup (p.1.map kV)) ∧ RelV p.2 q.2.2) kvs xs ∧
      ∃ o es ep, h.get? a = some o ∧ o.ExactDict ∧ o.data = .dict es ep ∧ es.toList = xs.map (entryOfKey (tupleKind (mixKind P w))) ∧ (xs.map (·.1)).Nodup
  | .set S n => h.SetOf (intKind P w) a S n
  | .ins C dx fs => H dx = some (.own a) ∧ fs.length ≤ 1000 ∧ dx ≠ a ∧ h.get? a = some (PySem.W.instObj C dx) ∧
      ∃ mA, h.Ns1 dx mA ∧ (∀ f, RelO (fs.lookup f) (mA f)) ∧ PySem.Within mA (fs.map (·.1))
  | .own _ => ∃ o, h.get? a = some o
  | .xd fs => ∃ mA, h.Ns1 a mA ∧ ∀ f, RelO (fs.lookup f) (mA f)
  | .rng lo hi => ∃ t u v, h.get? a = some { cls := .type "range", data := .fields #[.int lo t, .int hi u, .int 1 v] }
  | .frz o u => h.get? a = some o ∧ ObjOk H h a u
  | .tbl ps => h.get? a = some { cls := .none, data := .fields ps }
  | .met f x => h.get? a = some (PySem.W.methodObj (.ref f) (.ref x))
  | .ext φ => φ h ∧ (∃ o, h.get? a = some o) ∧ ∀ h1 h2 : Heap, φ h1 → (∀ o, h1.get? a = some o → h2.get? a = some o) → φ h2
def HOk (H : Hp) (h : Heap) : Prop := ∀ a o, H a = some o → ObjOk P w H h a o
end
section
variable {P : Program} {w : World} {H H' : Hp} {h h' : Heap} {a : Addr} {o : HO}
theorem ObjOk.lt (x : ObjOk P w H h a o) : a < h.objs.size := by
  cases o with
  | lst xs => obtain ⟨_, _, _, _, e⟩ := x; exact Heap.lt_size e
  | tup xs => obtain ⟨_, _, _, p⟩ := x; exact p.lt
  | dK kvs => obtain ⟨_, _, _, _, o, _, _, e, _⟩ := x; exact Heap.lt_size e
  | dT kvs => obtain ⟨_, _, _, _, o, _, _, e, _⟩ := x; exact Heap.lt_size e
  | set S n => obtain ⟨o, _, _, _, e, _⟩ := x; exact Heap.lt_size e
  | ins C dx fs => obtain ⟨_, _, _, e, _⟩ := x; exact Heap.lt_size e
  | own y => obtain ⟨_, e⟩ := x; exact Heap.lt_size e
  | xd fs => obtain ⟨_, ⟨_, _, _, e, _⟩, _⟩ := x; exact Heap.lt_size e
  | rng lo hi => obtain ⟨_, _, _, e⟩ := x; exact Heap.lt_size e
  | frz ob u => obtain ⟨e, _⟩ := x; exact Heap.lt_size e
  | tbl ps => exact Heap.lt_size (show h.get? a = some _ from x)
  | met f y => exact Heap.lt_size (show h.get? a = some _ from x)
  | ext φ => obtain ⟨_, ⟨_, e⟩, _⟩ := x; exact Heap.lt_size e
theorem Paired.mapP {α β : Type} {F G : α → β → Prop} : ∀ {l₁ : List α} {l₂ : List β}, Paired F l₁ l₂ → (∀ a b, F a b → G a b) → Paired G l₁ l₂
  | _, _, .nil, _ => .nil
  | _, _, .cons r t, f => .cons (f _ _ r) (Paired.mapP t f)
theorem ObjOk.stay (x : ObjOk P w H h a o) (k : ∀ b u, (b = a ∨ H b = some (.own a)) → h.get? b = some u → h'.get? b = some u)
    (ho : ∀ b, H b = some (.own a) → H' b = some (.own a)) (ht : ∀ b xs, H b = some (.tup xs) → H' b = some (.tup xs)) : ObjOk P w H' h' a o := by
  induction o with
  | lst xs => obtain ⟨z, its, n, r, e⟩ := x; exact ⟨z, its, n, r, k _ _ (.inl rfl) e⟩
  | tup xs => obtain ⟨z, its, r, ob, e, c⟩ := x; exact ⟨z, its, r, ob, k _ _ (.inl rfl) e, c⟩
  | dK kvs => obtain ⟨z, y, vs, r, ob, es, ep, e, c⟩ := x; exact ⟨z, y, vs, r, ob, es, ep, k _ _ (.inl rfl) e, c⟩
  | dT kvs =>
    obtain ⟨z, y, xs, r, ob, es, ep, e, c⟩ := x
    exact ⟨z, y, xs, Paired.mapP r fun p q z => ⟨z.1, ht _ _ z.2.1, z.2.2⟩, ob, es, ep, k _ _ (.inl rfl) e, c⟩
  | set S n => obtain ⟨ob, es, ep, t, e, c⟩ := x; exact ⟨ob, es, ep, t, k _ _ (.inl rfl) e, c⟩
  | ins C dx fs =>
    obtain ⟨d, z, ne, e, mA, ⟨od, es, ep, e2, c⟩, r⟩ := x
    exact ⟨ho _ d, z, ne, k _ _ (.inl rfl) e, mA, ⟨od, es, ep, k _ _ (.inr d) e2, c⟩, r⟩
  | own y => obtain ⟨ob, e⟩ := x; exact ⟨ob, k _ _ (.inl rfl) e⟩
  | xd fs => obtain ⟨mA, ⟨od, es, ep, e, c⟩, r⟩ := x; exact ⟨mA, ⟨od, es, ep, k _ _ (.inl rfl) e, c⟩, r⟩
  | rng lo hi => obtain ⟨t, u, v, e⟩ := x; exact ⟨t, u, v, k _ _ (.inl rfl) e⟩
  | frz ob u ih => obtain ⟨e, q⟩ := x; exact ⟨k _ _ (.inl rfl) e, ih q⟩
  | tbl ps =>
    have e : h.get? a = some { cls := .none, data := .fields ps } := x
    show h'.get? a = some { cls := .none, data := .fields ps }
    exact k a _ (.inl rfl) e
  | met f y =>
    have e : h.get? a = some (PySem.W.methodObj (.ref f) (.ref y)) := x
    show h'.get? a = some (PySem.W.methodObj (.ref f) (.ref y))
    exact k a _ (.inl rfl) e
  | ext φ => obtain ⟨p, ⟨o, e⟩, st⟩ := x; exact ⟨st _ _ p fun o q => k _ _ (.inl rfl) q, ⟨o, k _ _ (.inl rfl) e⟩, st⟩
theorem HOk.lt (x : HOk P w H h) (e : H a = some o) : a < h.objs.size := (x a o e).lt
theorem HOk.fresh (x : HOk P w H h) (e : h.objs.size ≤ a) : H a = none := by
  cases q : H a with
  | none => rfl
  | some u => exact absurd (Nat.lt_of_lt_of_le (x.lt q) e) (Nat.lt_irrefl _)
theorem HOk.kept (x : HOk P w H h) (k : ∀ b u, h.get? b = some u → h'.get? b = some u) : HOk P w H h' := fun a o e =>
  (x a o e).stay (fun b u _ q => k b u q) (fun _ q => q) fun _ _ q => q
theorem HOk.laid (x : HOk P w H h) (k : ∀ b u, h.get? b = some u → h'.get? b = some u) (hp : h.objs.size ≤ a) (new : ObjOk P w (upd H a o) h' a o) : HOk P w (upd H a o) h' := fun b u e => by
  have hn := x.fresh hp
  by_cases hb : b = a
  · subst hb; rw [upd_same] at e; cases e; exact new
  · rw [upd_ne hb] at e
    exact (x b u e).stay (fun c v _ q => k c v q) (fun c q => by rw [upd_ne (ne_of_none q hn)]; exact q) fun c xs q => by rw [upd_ne (ne_of_none q hn)]; exact q
end
def Rd (H : Hp) (a : Addr) (u : HO) : Prop := H a = some u ∨ ∃ o, H a = some (.frz o u)
theorem Rd.of {H : Hp} {a : Addr} {u : HO} (h : H a = some u) : Rd H a u := .inl h
theorem Rd.ok {P : Program} {w : World} {H : Hp} {h : Heap} {a : Addr} {u : HO} (r : Rd H a u) (x : HOk P w H h) : ObjOk P w H h a u := by
  rcases r with r | ⟨o, r⟩
  · exact x a u r
  · obtain ⟨_, q⟩ := x a _ r
    exact q
def Mut : Option HO → Prop
  | some (.lst _) => True
  | some (.dK _) => True
  | some (.dT _) => True
  | some (.set _ _) => True
  | some (.ins _ _ _) => True
  | some (.ext _) => True
  | _ => False
section
variable {P : Program} {w : World} {H : Hp} {h h' : Heap} {x e : Addr} {o' : HO}
theorem HOk.write (ok : HOk P w H h) (mu : Mut (H x)) (he : e = x ∨ H e = some (.own x)) (k : ∀ b u, b ≠ e → h.get? b = some u → h'.get? b = some u) (heo : ∃ u, h'.get? e = some u)
    (new : ObjOk P w (upd H x o') h' x o') : HOk P w (upd H x o') h' := fun b u q => by
  have nown : ∀ c y, H c = some (.own y) → c ≠ x := fun c y r z => by subst z; rw [r] at mu; exact mu
  have ntup : ∀ c xs, H c = some (.tup xs) → c ≠ x := fun c xs r z => by subst z; rw [r] at mu; exact mu
  by_cases hb : b = x
  · subst hb; rw [upd_same] at q; cases q; exact new
  · rw [upd_ne hb] at q
    by_cases hbe : b = e
    · have q' : H b = some (.own x) := by
        rcases he with z | z
        · exact absurd (hbe.trans z) hb
        · rw [hbe]; exact z
      rw [q] at q'; cases q'
      obtain ⟨v, hv⟩ := heo
      exact ⟨v, by rw [hbe]; exact hv⟩
    · refine (ok b u q).stay (fun c v hc r => k c v ?_ r) (fun c r => by rw [upd_ne (nown c b r)]; exact r) fun c xs r => by rw [upd_ne (ntup c xs r)]; exact r
      rcases hc with rfl | hc
      · exact hbe
      · rintro rfl
        rcases he with z | z
        · exact nown c b hc z
        · rw [hc] at z; cases z; exact hb rfl
end
structure Un (fs ex : List Addr) (H H' : Hp) (h h' : Heap) : Prop where
  keep : ∀ b o, h.get? b = some o → H b = none → b ∉ fs → b ∉ ex → h'.get? b = some o
  slot : ∀ b o, h.get? b = some o → H b = none → b ∈ fs → b ∉ ex → ∃ sl, h'.get? b = some { o with slots := sl }
  free : ∀ b o, h.get? b = some o → H b = none → b ∉ ex → H' b = none
  there : ∀ b o, h.get? b = some o → b ∉ ex → ∃ o', h'.get? b = some o'
  tups : ∀ b xs, H b = some (.tup xs) → H' b = some (.tup xs)
  frzs : ∀ b o u, H b = some (.frz o u) → H' b = some (.frz o u)
  tbls : ∀ b ps, H b = some (.tbl ps) → ∃ more, H' b = some (.tbl (ps ++ more))
section
variable {fs fs' ex ex' : List Addr} {H H1 H2 : Hp} {h h1 h2 h' : Heap} {a x e : Addr} {o : HO}
theorem Un.any (u : Un fs ex H H1 h h1) {b : Addr} {ob : Obj} (q : h.get? b = some ob) (n : H b = none) (hx : b ∉ ex) : ∃ sl, h1.get? b = some { ob with slots := sl } := by
  by_cases hb : b ∈ fs
  · exact u.slot b ob q n hb hx
  · exact ⟨ob.slots, u.keep b ob q n hb hx⟩
theorem Un.trans (a : Un fs ex H H1 h h1) (b : Un fs ex H1 H2 h1 h2) : Un fs ex H H2 h h2 where
  keep := fun c ob q n hc hx => b.keep c ob (a.keep c ob q n hc hx) (a.free c ob q n hx) hc hx
  slot := fun c ob q n hc hx => by
    obtain ⟨sl, e1⟩ := a.slot c ob q n hc hx
    obtain ⟨sl', e2⟩ := b.slot c _ e1 (a.free c ob q n hx) hc hx
    exact ⟨sl', e2⟩
  free := fun c ob q n hx => by
    obtain ⟨o', e1⟩ := a.there c ob q hx
    exact b.free c o' e1 (a.free c ob q n hx) hx
  there := fun c ob q hx => by
    obtain ⟨o', e1⟩ := a.there c ob q hx
    exact b.there c o' e1 hx
  tups := fun c xs q => b.tups c xs (a.tups c xs q)
  frzs := fun c ob xs q => b.frzs c ob xs (a.frzs c ob xs q)
  tbls := fun c ps q => by
    obtain ⟨m1, e1⟩ := a.tbls c ps q
    obtain ⟨m2, e2⟩ := b.tbls c _ e1
    exact ⟨m1 ++ m2, by rw [e2, Array.append_assoc]⟩
theorem Un.kept (k : ∀ b u, h.get? b = some u → h'.get? b = some u) : Un fs ex H H h h' :=
  ⟨fun b ob q _ _ _ => k b ob q, fun b ob q _ _ _ => ⟨ob.slots, k b ob q⟩, fun _ _ _ n _ => n, fun b ob q _ => ⟨ob, k b ob q⟩, fun _ _ q => q, fun _ _ _ q => q, fun _ ps q => ⟨#[], by rw [q]; simp⟩⟩
theorem Un.refl : Un fs ex H H h h := Un.kept fun _ _ q => q
theorem Un.laid (k : ∀ b u, h.get? b = some u → h'.get? b = some u) (hp : h.objs.size ≤ a) (hn : H a = none) : Un fs ex H (upd H a o) h h' where
  keep := fun b u q _ _ _ => k b u q
  slot := fun b u q _ _ _ => ⟨u.slots, k b u q⟩
  free := fun b u q n _ => by rw [upd_ne (Nat.ne_of_lt (Nat.lt_of_lt_of_le (Heap.lt_size q) hp))]; exact n
  there := fun b u q _ => ⟨u, k b u q⟩
  tups := fun b xs q => by rw [upd_ne (ne_of_none q hn)]; exact q
  frzs := fun b u xs q => by rw [upd_ne (ne_of_none q hn)]; exact q
  tbls := fun b ps q => ⟨#[], by rw [upd_ne (ne_of_none q hn), q]; simp⟩
theorem Un.write (mu : Mut (H x)) (he : e = x ∨ H e = some (.own x)) (k : ∀ b u, b ≠ e → h.get? b = some u → h'.get? b = some u) (heo : ∃ u, h'.get? e = some u) : Un fs ex H (upd H x o) h h' := by
  have hx : ∀ b, H b = none → b ≠ x := fun b n z => by subst z; rw [n] at mu; exact mu
  have hb : ∀ b, H b = none → b ≠ e := fun b n z => by
    subst z
    rcases he with r | r
    · exact hx b n r
    · rw [n] at r; cases r
  have hm : ∀ b u, H b = some u → ¬ Mut (some u) → b ≠ x := fun b u q nm z => by subst z; rw [q] at mu; exact nm mu
  refine ⟨fun b u q n _ _ => k b u (hb b n) q, fun b u q n _ _ => ⟨u.slots, k b u (hb b n) q⟩, fun b u q n _ => by rw [upd_ne (hx b n)]; exact n, fun b u q _ => ?_,
    fun b xs q => by rw [upd_ne (hm b _ q fun z => z)]; exact q, fun b u xs q => by rw [upd_ne (hm b _ q fun z => z)]; exact q, fun b ps q => ⟨#[], by rw [upd_ne (hm b _ q fun z => z), q]; simp⟩⟩
  by_cases hbe : b = e
  · subst hbe; exact heo
  · exact ⟨u, k b u hbe q⟩
theorem Un.mono (u : Un fs ex H H1 h h1) (hs : ∀ b ∈ fs, b ∈ fs') (hx : ∀ b ∈ ex, b ∈ ex') : Un fs' ex' H H1 h h1 :=
  ⟨fun b ob q n hb he => u.keep b ob q n (fun z => hb (hs b z)) fun z => he (hx b z), fun _ _ q n _ he => u.any q n fun z => he (hx _ z), fun b ob q n he => u.free b ob q n fun z => he (hx b z), fun b ob q he => u.there b ob q fun z => he (hx b z), u.tups, u.frzs, u.tbls⟩
end
def trk (h : Heap) (H : Hp) : List Addr := (List.range h.objs.size).filter fun a => (H a).isSome
def hidT (h : Heap) (H : Hp) : Heap := PySem.W.hideAll h (trk h H)
theorem hidT_size (h : Heap) (H : Hp) : (hidT h H).objs.size = h.objs.size := PySem.W.hideAll_size _ _
theorem hidT_get {h : Heap} {H : Hp} {b : Addr} {o : Obj} (e : h.get? b = some o) (n : H b = none) : (hidT h H).get? b = some o :=
  PySem.W.hideAll_get _ e fun hm => by
    have q : (H b).isSome = true := (List.mem_filter.mp hm).2
    rw [n] at q; simp at q
theorem of_hidT {h : Heap} {H : Hp} {b : Addr} {o : Obj} (e : (hidT h H).get? b = some o) : h.get? b = some o ∧ H b = none := by
  have e' : h.get? b = some o := PySem.W.of_hideAll (trk h H) e
  refine ⟨e', ?_⟩
  cases q : H b with
  | none => rfl
  | some x =>
    have hm : b ∈ trk h H := List.mem_filter.mpr ⟨List.mem_range.mpr (Heap.lt_size e'), by simp [q]⟩
    have z : (hidT h H).get? b = none := PySem.W.hideAll_none (trk h H) hm
    rw [z] at e; cases e
def allNews (g h : Heap) (L : Addr) : List (Addr × Obj) := (List.range h.objs.size).filterMap fun a => if a = L ∨ (g.get? a).isSome = true then none else (h.get? a).map fun o => (a, o)
theorem mem_allNews {g h : Heap} {L a : Addr} {o : Obj} (h1 : a ≠ L) (h2 : g.get? a = none) (h3 : h.get? a = some o) : (a, o) ∈ allNews g h L :=
  List.mem_filterMap.mpr ⟨a, List.mem_range.mpr (Heap.lt_size h3), by simp [h1, h2, h3]⟩
theorem of_mem_allNews {g h : Heap} {L : Addr} {p : Addr × Obj} (hp : p ∈ allNews g h L) : p.1 ≠ L ∧ g.get? p.1 = none ∧ h.get? p.1 = some p.2 := by
  obtain ⟨b, _, e⟩ := List.mem_filterMap.mp hp
  split at e
  · cases e
  · rename_i hn
    cases q : h.get? b with
    | none => rw [q] at e; simp at e
    | some u =>
      rw [q] at e
      simp only [Option.map_some, Option.some.injEq] at e
      subst e
      refine ⟨fun z => hn (.inl z), ?_, q⟩
      show g.get? b = none
      cases r : g.get? b with
      | none => rfl
      | some v => exact (hn (.inr (by simp [r]))).elim
def rest (g h : Heap) (L d : Addr) : List (Addr × Obj) := (allNews g h L).filter fun p => decide (p.1 ≠ d)
theorem news_all {g h : Heap} {L : Addr} : News g L h (allNews g h L) := fun p hp => let ⟨a, b, c⟩ := of_mem_allNews hp; ⟨c, a, b⟩
end L2
namespace L2
open PySem PySem.Spec PyProof.Rows
structure Mod (K : PySem.W.Frag) (mg : Str → Option Value) (base : Heap) : Prop where
  kin : K.In base
  glob : base.Ns mainGlobals mg
  blt : ∃ mb, base.Ns builtinsNs mb ∧ ∀ x : Str, x ≠ "__name__" → mb x = bootBuiltins x
  nolimit : base.NoLimit
structure Cx where
  prog : Program
  w : World
  K : PySem.W.Frag
  mg : Str → Option Value
  base : Heap
  A : Around
  N : List Str
  s₀ : Shared
  H₀ : Hp
  env : Env
  outer : List Env
  stack : List Env
  ex : List Addr
  fn : Str → Bool
  calm : Bool
  pn : List (Addr × Obj)
  xe : Value → Shared → Prop
def frs (l : List Env) : List Addr := l.filterMap (·.frame)
abbrev Cx.fs (X : Cx) : List Addr := frs X.outer
def Vis (sc : Scope) (x : Str) : Prop := sc.names.lookup x = some .local ∨ sc.names.lookup x = some .cell ∨ sc.names.lookup x = some .free
def Loc (sc : Scope) (x : Str) : Prop := sc.names.lookup x = some .local ∨ sc.names.lookup x = some .cell
def Look (env : Env) (h : Heap) (m : Str → Option Value) (x : Str) (u : Value) : Prop :=
  (env.kindOf x = some .local ∧ m x = some u) ∨ ((env.kindOf x = some .cell ∨ env.kindOf x = some .free) ∧ ∃ c, env.cells.lookup x = some c ∧ h.IsCell c (some u))
structure Cx.Ok (X : Cx) : Prop where
  mod : Mod X.K X.mg X.base
  kind : X.env.scope.kind = .function
  glob : X.env.globals = mainGlobals
  blt : X.env.builtins = builtinsNs
  above : X.s₀.heap.objs.size ≤ X.env.locals
  inj : ∀ x y c, X.env.cells.lookup x = some c → X.env.cells.lookup y = some c → x = y
  has : ∀ x, (X.env.kindOf x = some .cell ∨ X.env.kindOf x = some .free) → ∃ c, X.env.cells.lookup x = some c
  cab : ∀ x c, X.fn x = true → X.env.cells.lookup x = some c → X.s₀.heap.objs.size ≤ c
  hd : X.calm = true → X.A.handled = none
  frames : X.A.frames = some X.stack
  stk : X.stack = X.outer ∨ (X.stack = X.env :: X.outer ∧ X.env.frame = some X.env.locals)
  exf : ∀ b ∈ X.ex, b ≠ X.env.locals ∧ ∀ x c, X.env.cells.lookup x = some c → c ≠ b
  bs : ∀ b o, X.base.get? b = some o → X.s₀.heap.get? b = some o ∧ X.H₀ b = none
  bsz : X.base.objs.size ≤ X.s₀.heap.objs.size
  noex : ∀ b o, X.base.get? b = some o → b ∉ X.ex
  exfs : ∀ b ∈ X.ex, b ∉ X.fs
  funs : X.s₀.heap.FunFrames X.base X.outer
  frf : ∀ b ∈ X.fs, X.H₀ b = none
structure Inv (X : Cx) (pins : List (Addr × Obj)) (σ : List (Option V)) (H : Hp) (s : Shared) : Prop where
  ok : X.Ok
  os : s.os = X.s₀.os
  bare : AllBare s.gens
  base : Un X.fs X.ex X.H₀ H X.s₀.heap s.heap
  loc : ∃ m, s.heap.Ns X.env.locals m ∧ ∀ (i : Nat) (x : Str) (v : V), X.N[i]? = some x → σ[i]? = some (some v) → Vis X.env.scope x → ∃ u, RelV v u ∧ Look X.env s.heap m x u
  cell : ∀ x c, X.env.cells.lookup x = some c → ∃ v, s.heap.IsCell c v
  free : H X.env.locals = none
  freeC : ∀ x c, X.env.cells.lookup x = some c → H c = none
  pin : ∀ p ∈ X.pn ++ pins, s.heap.get? p.1 = some p.2 ∧ H p.1 = none ∧ p.1 ≠ X.env.locals ∧ p.1 ∉ X.fs ∧ ∀ v, p.2.data ≠ .cell v
  hok : HOk X.prog X.w H s.heap
  len : σ.length = X.N.length
section
variable {X : Cx} {pins : List (Addr × Obj)} {σ : List (Option V)} {H H' : Hp} {s : Shared} {h' : Heap}
theorem Cx.Ok.nofr (ok : X.Ok) {b : Addr} {o : Obj} (e : X.base.get? b = some o) : b ∉ X.fs := fun hb => by
  have := (ok.funs.mem hb).1
  rw [e] at this; cases this
theorem Inv.bs (I : Inv X pins σ H s) : ∀ b o, X.base.get? b = some o → s.heap.get? b = some o ∧ H b = none := fun b o e =>
  ⟨I.base.keep b o (I.ok.bs b o e).1 (I.ok.bs b o e).2 (I.ok.nofr e) (I.ok.noex b o e), I.base.free b o (I.ok.bs b o e).1 (I.ok.bs b o e).2 (I.ok.noex b o e)⟩
theorem Inv.bk (I : Inv X pins σ H s) : ∀ b o, X.base.get? b = some o → s.heap.get? b = some o := fun b o e => (I.bs b o e).1
theorem Inv.mod (I : Inv X pins σ H s) : Mod X.K X.mg X.base := I.ok.mod
theorem Inv.kIn (I : Inv X pins σ H s) : X.K.In s.heap := I.ok.mod.kin.keeps I.bk
theorem Inv.nolimit (I : Inv X pins σ H s) : s.heap.NoLimit := I.ok.mod.nolimit.keeps I.bk
theorem Inv.fr (I : Inv X pins σ H s) : ∃ m, Fr X.base X.env.locals s.heap m :=
  let ⟨m, hn, _⟩ := I.loc
  ⟨m, hn, I.bk, Nat.le_trans I.ok.bsz I.ok.above⟩
theorem Inv.lt (I : Inv X pins σ H s) : X.env.locals < s.heap.objs.size := let ⟨_, hn, _⟩ := I.loc; hn.lt
theorem Inv.sz (I : Inv X pins σ H s) : X.s₀.heap.objs.size ≤ s.heap.objs.size := Nat.le_trans I.ok.above (Nat.le_of_lt I.lt)
theorem Inv.nofs (I : Inv X pins σ H s) {a : Addr} (h : s.heap.objs.size ≤ a) : a ∉ X.fs := fun hb => by
  obtain ⟨_, o, ho, _⟩ := I.ok.funs.mem hb
  exact absurd (Nat.lt_of_lt_of_le (Heap.lt_size ho) (Nat.le_trans I.sz h)) (Nat.lt_irrefl _)
theorem Inv.cne (I : Inv X pins σ H s) : ∀ x c, X.env.cells.lookup x = some c → c ≠ X.env.locals := fun x c e z => by
  obtain ⟨v, o, ho, hd⟩ := I.cell x c e
  obtain ⟨m, ⟨o', es, ep, ho', hd', _⟩, _⟩ := I.loc
  rw [z, ho'] at ho; cases ho; rw [hd'] at hd; cases hd
theorem Inv.funs (I : Inv X pins σ H s) : s.heap.FunFrames X.base X.outer := by
  have all : ∀ (l : List Env), (∀ b ∈ frs l, b ∈ X.fs) → X.s₀.heap.FunFrames X.base l → s.heap.FunFrames X.base l := by
    intro l
    induction l with
    | nil => intro _ _; trivial
    | cons env r ih =>
      intro hs hl
      obtain ⟨hk, ⟨L, o, hf, hn, ho, hd⟩, hr⟩ := hl
      have hL : L ∈ X.fs := hs L (by unfold frs; rw [List.filterMap_cons, hf]; exact List.mem_cons_self)
      obtain ⟨sl, e⟩ := I.base.slot L o ho (I.ok.frf L hL) hL fun z => I.ok.exfs L z hL
      exact ⟨hk, ⟨L, _, hf, hn, e, hd⟩, ih (fun b hb => hs b (by unfold frs; rw [List.filterMap_cons, hf]; exact List.mem_cons_of_mem _ hb)) hr⟩
  exact all X.outer (fun _ hb => hb) I.ok.funs
theorem Inv.stack (I : Inv X pins σ H s) : s.heap.FunFrames X.base X.stack := by
  rcases I.ok.stk with e | ⟨e, hf⟩
  · rw [e]; exact I.funs
  · rw [e]
    obtain ⟨m, hn, _⟩ := I.loc
    refine .cons (by rw [I.ok.kind]; decide) hf hn ?_ I.funs
    exact Heap.get?_none_of_le (Nat.le_trans I.ok.bsz I.ok.above)
theorem Inv.stkSub (I : Inv X pins σ H s) : ∀ b ∈ frs X.stack, b ∈ X.env.locals :: X.fs := fun b hb => by
  rcases I.ok.stk with e | ⟨e, hf⟩
  · rw [e] at hb; exact List.mem_cons_of_mem _ hb
  · rw [e] at hb
    unfold frs at hb
    rw [List.filterMap_cons, hf] at hb
    exact hb
theorem Inv.stkFree (I : Inv X pins σ H s) : ∀ b ∈ frs X.stack, H b = none := fun b hb => by
  rcases List.mem_cons.mp (I.stkSub b hb) with e | hb
  · rw [e]; exact I.free
  · obtain ⟨_, o, ho, _⟩ := I.ok.funs.mem hb
    exact I.base.free b o ho (I.ok.frf b hb) fun z => I.ok.exfs b z hb
theorem Inv.step {g' : Array GenState} {t' : Nat} {d' : Drawn} {ch : List Addr} (I : Inv X pins σ H s)
    (hch : ∀ b ∈ ch, (b ∈ X.ex ∨ X.s₀.heap.objs.size ≤ b) ∧ b ≠ X.env.locals ∧ (∀ x c, X.env.cells.lookup x = some c → c ≠ b) ∧ ∀ p ∈ X.pn ++ pins, p.1 ≠ b)
    (keep : ∀ b o, b ≠ X.env.locals → b ∉ X.fs → b ∉ ch → s.heap.get? b = some o → H b = none → h'.get? b = some o)
    (slot : ∀ b o, b ≠ X.env.locals → b ∈ X.fs → b ∉ ch → s.heap.get? b = some o → H b = none → ∃ sl, h'.get? b = some { o with slots := sl }) (free : ∀ b o, b ∉ ch → s.heap.get? b = some o → H b = none → H' b = none)
    (there : ∀ b o, b ∉ ch → s.heap.get? b = some o → ∃ o', h'.get? b = some o')
    (tups : ∀ b xs, H b = some (.tup xs) → H' b = some (.tup xs)) (frzs : ∀ b o u, H b = some (.frz o u) → H' b = some (.frz o u)) (tbls : ∀ b ps, H b = some (.tbl ps) → ∃ more, H' b = some (.tbl (ps ++ more)))
    (ns : ∀ m, s.heap.Ns X.env.locals m → h'.Ns X.env.locals m) (hok : HOk X.prog X.w H' h') (hg : AllBare g') :
    Inv X pins σ H' { s with heap := h', gens := g', drawn := d', toks := t' } := by
  have neL : ∀ b o, X.s₀.heap.get? b = some o → b ≠ X.env.locals := fun b o e => Nat.ne_of_lt (Nat.lt_of_lt_of_le (Heap.lt_size e) I.ok.above)
  have neC : ∀ b o, X.s₀.heap.get? b = some o → b ∉ X.ex → b ∉ ch := fun b o e hx hb => by
    rcases (hch b hb).1 with z | z
    · exact hx z
    · exact absurd (Nat.lt_of_lt_of_le (Heap.lt_size e) z) (Nat.lt_irrefl _)
  have cellK : ∀ x c, X.env.cells.lookup x = some c → ∀ v, s.heap.IsCell c v → h'.IsCell c v := fun x c e v ⟨o, ho, hd⟩ => by
    have nch : c ∉ ch := fun z => (hch c z).2.2.1 x c e rfl
    by_cases hc : c ∈ X.fs
    · obtain ⟨sl, q⟩ := slot c o (I.cne x c e) hc nch ho (I.freeC x c e)
      exact ⟨_, q, hd⟩
    · exact ⟨o, keep c o (I.cne x c e) hc nch ho (I.freeC x c e), hd⟩
  refine ⟨I.ok, I.os, hg, ⟨fun b o e n hb hx => ?_, fun b o e n hb hx => ?_, fun b o e n hx => ?_, fun b o e hx => ?_, fun b xs e => tups b xs (I.base.tups b xs e), fun b o xs e => frzs b o xs (I.base.frzs b o xs e), fun b ps e => ?_⟩, ?_, fun x c e => ?_, ?_, fun x c e => ?_, fun p hp => ?_, hok, I.len⟩
  · exact keep b o (neL b o e) hb (neC b o e hx) (I.base.keep b o e n hb hx) (I.base.free b o e n hx)
  · obtain ⟨sl, e1⟩ := I.base.slot b o e n hb hx
    obtain ⟨sl', e2⟩ := slot b _ (neL b o e) hb (neC b o e hx) e1 (I.base.free b o e n hx)
    exact ⟨sl', e2⟩
  · obtain ⟨o', e1⟩ := I.base.there b o e hx
    exact free b o' (neC b o e hx) e1 (I.base.free b o e n hx)
  · obtain ⟨o', e1⟩ := I.base.there b o e hx
    exact there b o' (neC b o e hx) e1
  · obtain ⟨m1, e1⟩ := I.base.tbls b ps e
    obtain ⟨m2, e2⟩ := tbls b _ e1
    exact ⟨m1 ++ m2, by rw [e2, Array.append_assoc]⟩
  · obtain ⟨m, hn, hl⟩ := I.loc
    refine ⟨m, ns m hn, fun i x v e1 e2 e3 => ?_⟩
    obtain ⟨u, r, l⟩ := hl i x v e1 e2 e3
    refine ⟨u, r, ?_⟩
    rcases l with l | ⟨k, c, e, z⟩
    · exact .inl l
    · exact .inr ⟨k, c, e, cellK x c e _ z⟩
  · obtain ⟨v, z⟩ := I.cell x c e
    exact ⟨v, cellK x c e v z⟩
  · obtain ⟨m, ⟨o, _, _, ho, _⟩, _⟩ := I.loc
    exact free _ o (fun z => (hch _ z).2.1 rfl) ho I.free
  · obtain ⟨v, o, ho, hd⟩ := I.cell x c e
    exact free c o (fun z => (hch c z).2.2.1 x c e rfl) ho (I.freeC x c e)
  · obtain ⟨e, n, ne, nf, d⟩ := I.pin p hp
    have nch : p.1 ∉ ch := fun z => (hch p.1 z).2.2.2 p hp rfl
    exact ⟨keep p.1 p.2 ne nf nch e n, free p.1 p.2 nch e n, ne, nf, d⟩
theorem Inv.un {t' : Nat} (I : Inv X pins σ H s) (u : Un X.fs [] H H' s.heap h') (hok : HOk X.prog X.w H' h') : Inv X pins σ H' { s with heap := h', toks := t' } := by
  obtain ⟨m, ⟨o, es, ep, ho, r⟩, _⟩ := id I.loc
  obtain ⟨sl, hL⟩ := u.any ho I.free (by simp)
  exact I.step (g' := s.gens) (d' := s.drawn) (ch := []) (fun _ z => nomatch z) (fun b o _ hb _ e n => u.keep b o e n hb (by simp)) (fun b o _ hb _ e n => u.slot b o e n hb (by simp)) (fun b o _ e n => u.free b o e n (by simp)) (fun b o _ e => u.there b o e (by simp)) u.tups u.frzs u.tbls (fun m' hm => by
    obtain ⟨o', es', ep', ho', r'⟩ := hm
    rw [ho] at ho'; cases ho'
    exact ⟨_, es', ep', hL, r'⟩) hok I.bare
theorem Inv.call {g' : Array GenState} {t' : Nat} {d' : Drawn} {ch : List Addr} (I : Inv X pins σ H s) (u : Un (frs X.stack) ch H H' s.heap h') (hok : HOk X.prog X.w H' h') (hg : AllBare g')
    (hch : ∀ b ∈ ch, (b ∈ X.ex ∨ X.s₀.heap.objs.size ≤ b) ∧ b ≠ X.env.locals ∧ (∀ x c, X.env.cells.lookup x = some c → c ≠ b) ∧ ∀ p ∈ X.pn ++ pins, p.1 ≠ b) :
    Inv X pins σ H' { s with heap := h', gens := g', drawn := d', toks := t' } := by
  obtain ⟨m, ⟨o, es, ep, ho, r⟩, _⟩ := id I.loc
  obtain ⟨sl, hL⟩ := u.any ho I.free fun z => (hch _ z).2.1 rfl
  exact I.step (ch := ch) hch (fun b o hL hb hc e n => u.keep b o e n (fun z => (List.mem_cons.mp (I.stkSub b z)).elim hL hb) hc) (fun b o _ _ hc e n => u.any e n hc) (fun b o hc e n => u.free b o e n hc) (fun b o hc e => u.there b o e hc) u.tups u.frzs u.tbls (fun m' hm => by
    obtain ⟨o', es', ep', ho', r'⟩ := hm
    rw [ho] at ho'; cases ho'
    exact ⟨_, es', ep', hL, r'⟩) hok hg
theorem Inv.turned {t' : Nat} {it : Addr} (I : Inv X pins σ H s) (k : ∀ b o, b ≠ it → s.heap.get? b = some o → h'.get? b = some o) (hn : H it = none) (hL : it ≠ X.env.locals)
    (h1 : it ∈ X.ex ∨ X.s₀.heap.objs.size ≤ it) (h2 : ∀ x c, X.env.cells.lookup x = some c → c ≠ it) (h3 : ∀ p ∈ X.pn ++ pins, p.1 ≠ it) : Inv X pins σ H { s with heap := h', toks := t' } := by
  have nit : ∀ b u, H b = some u → b ≠ it := fun b u e z => by rw [z, hn] at e; cases e
  refine I.step (g' := s.gens) (d' := s.drawn) (ch := [it]) (fun b hb => ?_) (fun b o _ _ hc e _ => k b o (fun z => hc (by simp [z])) e) (fun b o _ _ hc e _ => ⟨o.slots, k b o (fun z => hc (by simp [z])) e⟩) (fun _ _ _ _ n => n)
    (fun b o hc e => ⟨o, k b o (fun z => hc (by simp [z])) e⟩) (fun _ _ e => e) (fun _ _ _ e => e) (fun b ps e => ⟨#[], by rw [e]; simp⟩) (fun m hm => ?_) (fun b u e => ?_) I.bare
  · have e : b = it := by simpa using hb
    subst e
    exact ⟨h1, hL, h2, h3⟩
  · obtain ⟨o, es, ep, ho, r⟩ := hm
    exact ⟨o, es, ep, k _ o (Ne.symm hL) ho, r⟩
  · refine (I.hok b u e).stay (fun c v hc q => k c v ?_ q) (fun _ q => q) fun _ _ q => q
    rcases hc with z | z
    · rw [z]; exact nit b u e
    · exact nit c _ z
theorem Inv.tok (I : Inv X pins σ H s) (t : Nat) : Inv X pins σ H { s with toks := t } := I.un (h' := s.heap) (t' := t) Un.refl I.hok
theorem Inv.kept {t' : Nat} (I : Inv X pins σ H s) (k : ∀ b u, s.heap.get? b = some u → h'.get? b = some u) : Inv X pins σ H { s with heap := h', toks := t' } := I.un (Un.kept k) (I.hok.kept k)
theorem Inv.laid {a : Addr} {o : HO} {t' : Nat} (I : Inv X pins σ H s) (k : ∀ b u, s.heap.get? b = some u → h'.get? b = some u) (hp : s.heap.objs.size ≤ a) (new : ObjOk X.prog X.w (upd H a o) h' a o) :
    Inv X pins σ (upd H a o) { s with heap := h', toks := t' } := I.un (Un.laid k hp (I.hok.fresh hp)) (I.hok.laid k hp new)
theorem Inv.write {x e : Addr} {o : HO} {t' : Nat} (I : Inv X pins σ H s) (mu : Mut (H x)) (he : e = x ∨ H e = some (.own x)) (k : ∀ b u, b ≠ e → s.heap.get? b = some u → h'.get? b = some u) (heo : ∃ u, h'.get? e = some u)
    (new : ObjOk X.prog X.w (upd H x o) h' x o) : Inv X pins σ (upd H x o) { s with heap := h', toks := t' } := I.un (Un.write mu he k heo) (I.hok.write mu he k heo new)
theorem Inv.weak {σ' : List (Option V)} (I : Inv X pins σ H s) (hl : σ'.length = σ.length) (w : ∀ (i : Nat) v, σ'[i]? = some (some v) → σ[i]? = some (some v)) : Inv X pins σ' H s :=
  ⟨I.ok, I.os, I.bare, I.base, let ⟨m, hn, hl'⟩ := I.loc; ⟨m, hn, fun i x v e1 e2 e3 => hl' i x v e1 (w i v e2) e3⟩, I.cell, I.free, I.freeC, I.pin, I.hok, hl.trans I.len⟩
theorem Inv.pins_of {pins' : List (Addr × Obj)} (I : Inv X pins σ H s) (h : ∀ p ∈ pins', s.heap.get? p.1 = some p.2 ∧ H p.1 = none ∧ p.1 ≠ X.env.locals ∧ p.1 ∉ X.fs ∧ ∀ v, p.2.data ≠ .cell v) : Inv X pins' σ H s :=
  ⟨I.ok, I.os, I.bare, I.base, I.loc, I.cell, I.free, I.freeC, fun p hp => (List.mem_append.mp hp).elim (fun z => I.pin p (List.mem_append_left _ z)) (h p), I.hok, I.len⟩
theorem nodup_ix {N : List Str} (hN : N.Nodup) {i j : Nat} {x : Str} (a : N[i]? = some x) (b : N[j]? = some x) : i = j := by
  obtain ⟨h1, e1⟩ := List.getElem?_eq_some_iff.mp a
  obtain ⟨h2, e2⟩ := List.getElem?_eq_some_iff.mp b
  exact (List.getElem_inj hN).mp (e1.trans e2.symm)
theorem store_ok2 {M : Model} {A : Around} {E : Value → Shared → Prop} {i : Nat} {x : Str} {v : V} {u : Value} {Q : Unit → Shared → Prop} (I : Inv X pins σ H s) (hN : X.N.Nodup) (hi : X.N[i]? = some x) (hx : Loc X.env.scope x) (r : RelV v u)
    (h : ∀ s', Inv X pins (σ.set i (some v)) H s' → (∃ a, Heap.SameBut a s.heap s'.heap ∧ (a = X.env.locals ∨ X.env.cells.lookup x = some a)) → Q () s') (hf : X.fn x = true ∨ X.env.scope.names.lookup x = some .local := by first | exact .inl rfl | exact .inr rfl | assumption) : wpAny M A (storeName X.env x u) Q E s := by
  obtain ⟨m, hn, hl⟩ := id I.loc
  have hcls : (X.env.scope.kind == .class || (X.env.scope.kind == .module && X.env.locals != X.env.globals)) = false := by rw [I.ok.kind]; rfl
  have hiσ : i < σ.length := by rw [I.len]; exact (List.getElem?_eq_some_iff.mp hi).1
  have cne := I.cne
  have tracked : ∀ {a : Addr} {h' : Heap}, (∃ o, s.heap.get? a = some o ∧ H a = none) → Heap.SameBut a s.heap h' → HOk X.prog X.w H h' := fun {a h'} ha hs b ob e => by
    obtain ⟨_, _, hfree⟩ := ha
    refine (I.hok b ob e).stay (fun c w' hc q => (hs.2 c ?_).trans q) (fun _ q => q) fun _ _ q => q
    rintro rfl
    rcases hc with rfl | hc
    · rw [hfree] at e; cases e
    · rw [hfree] at hc; cases hc
  rcases hx with hk | hk
  · refine wpAny_storeName_local hk hn (fun h' hn' hs => ?_) hcls
    obtain ⟨oL, _, _, hoL, _⟩ := id hn
    refine h _ ⟨I.ok, I.os, I.bare, ⟨fun b o e n hb hx => ?_, fun b o e n hb hx => ?_, I.base.free, fun b o e hx => ?_, I.base.tups, I.base.frzs, I.base.tbls⟩, ⟨_, hn', fun j y v' e1 e2 e3 => ?_⟩, fun y c e => ?_, I.free, I.freeC, fun p hp => ?_, tracked ⟨oL, hoL, I.free⟩ hs, by simpa using I.len⟩ ⟨_, hs, .inl rfl⟩
    · exact (hs.2 b (Nat.ne_of_lt (Nat.lt_of_lt_of_le (Heap.lt_size e) I.ok.above))).trans (I.base.keep b o e n hb hx)
    · obtain ⟨sl, e1⟩ := I.base.slot b o e n hb hx
      exact ⟨sl, (hs.2 b (Nat.ne_of_lt (Nat.lt_of_lt_of_le (Heap.lt_size e) I.ok.above))).trans e1⟩
    · obtain ⟨o', e1⟩ := I.base.there b o e hx
      exact ⟨o', (hs.2 b (Nat.ne_of_lt (Nat.lt_of_lt_of_le (Heap.lt_size e) I.ok.above))).trans e1⟩
    · by_cases hj : j = i
      · subst hj
        rw [hi] at e1; cases e1
        rw [List.getElem?_set_self hiσ] at e2
        cases e2
        exact ⟨u, r, .inl ⟨hk, by simp⟩⟩
      · rw [List.getElem?_set_ne (Ne.symm hj)] at e2
        obtain ⟨u', r', q⟩ := hl j y v' e1 e2 e3
        refine ⟨u', r', ?_⟩
        rcases q with ⟨k, e⟩ | ⟨k, c, e, z⟩
        · refine .inl ⟨k, ?_⟩
          have : y ≠ x := fun e => hj (nodup_ix hN e1 (e ▸ hi))
          simp [this, e]
        · exact .inr ⟨k, c, e, z.sameBut hs (cne y c e)⟩
    · obtain ⟨w', z⟩ := I.cell y c e
      exact ⟨w', z.sameBut hs (cne y c e)⟩
    · obtain ⟨e, n, ne, nf, d⟩ := I.pin p hp
      exact ⟨(hs.2 p.1 ne).trans e, n, ne, nf, d⟩
  · have hfn : X.fn x = true := by
      rcases hf with z | z
      · exact z
      · rw [z] at hk; cases hk
    obtain ⟨c, hc⟩ := I.ok.has x (.inl hk)
    obtain ⟨w', z⟩ := I.cell x c hc
    refine wpAny_storeName_cell I.ok.kind hk hc z (fun h' hc' hs => ?_)
    obtain ⟨oc, hoc, hocd⟩ := id z
    refine h { s with heap := h' } ⟨I.ok, I.os, I.bare, ⟨fun b o e n hb hx => ?_, fun b o e n hb hx => ?_, I.base.free, fun b o e hx => ?_, I.base.tups, I.base.frzs, I.base.tbls⟩, ⟨m, hn.sameBut hs (Ne.symm (cne x c hc)), fun j y v' e1 e2 e3 => ?_⟩, fun y c' e => ?_, I.free, I.freeC, fun p hp => ?_, tracked ⟨oc, hoc, I.freeC x c hc⟩ hs, by simpa using I.len⟩ ⟨c, hs, .inr hc⟩
    · exact (hs.2 b (Nat.ne_of_lt (Nat.lt_of_lt_of_le (Heap.lt_size e) (I.ok.cab x c hfn hc)))).trans (I.base.keep b o e n hb hx)
    · obtain ⟨sl, e1⟩ := I.base.slot b o e n hb hx
      exact ⟨sl, (hs.2 b (Nat.ne_of_lt (Nat.lt_of_lt_of_le (Heap.lt_size e) (I.ok.cab x c hfn hc)))).trans e1⟩
    · obtain ⟨o', e1⟩ := I.base.there b o e hx
      exact ⟨o', (hs.2 b (Nat.ne_of_lt (Nat.lt_of_lt_of_le (Heap.lt_size e) (I.ok.cab x c hfn hc)))).trans e1⟩
    · by_cases hj : j = i
      · subst hj
        rw [hi] at e1; cases e1
        rw [List.getElem?_set_self hiσ] at e2
        cases e2
        exact ⟨u, r, .inr ⟨.inl hk, c, hc, hc'⟩⟩
      · rw [List.getElem?_set_ne (Ne.symm hj)] at e2
        obtain ⟨u', r', q⟩ := hl j y v' e1 e2 e3
        refine ⟨u', r', ?_⟩
        rcases q with q | ⟨k, c', e, z'⟩
        · exact .inl q
        · refine .inr ⟨k, c', e, z'.sameBut hs ?_⟩
          rintro rfl
          exact hj (nodup_ix hN e1 (I.ok.inj _ _ _ e hc ▸ hi))
    · by_cases hcc : c' = c
      · subst hcc; exact ⟨_, hc'⟩
      · obtain ⟨w2, z2⟩ := I.cell y c' e
        exact ⟨w2, z2.sameBut hs hcc⟩
    · obtain ⟨e, n, ne, nf, d⟩ := I.pin p hp
      refine ⟨(hs.2 p.1 ?_).trans e, n, ne, nf, d⟩
      intro q
      rw [q, hoc] at e
      have q' : oc = p.2 := Option.some.inj e
      exact d w' (by rw [← q']; exact hocd)
theorem store_ok {M : Model} {A : Around} {E : Value → Shared → Prop} {i : Nat} {x : Str} {v : V} {u : Value} {Q : Unit → Shared → Prop} (I : Inv X pins σ H s) (hN : X.N.Nodup) (hi : X.N[i]? = some x) (hx : Loc X.env.scope x) (r : RelV v u)
    (h : ∀ s', Inv X pins (σ.set i (some v)) H s' → Q () s') (hf : X.fn x = true ∨ X.env.scope.names.lookup x = some .local := by first | exact .inl rfl | exact .inr rfl | assumption) : wpAny M A (storeName X.env x u) Q E s :=
  store_ok2 I hN hi hx r (fun s' I' _ => h s' I') hf
theorem Inv.call' {s' : Shared} {ch : List Addr} (I : Inv X pins σ H s) (ho : s'.os = s.os) (u : Un (frs X.stack) ch H H' s.heap s'.heap) (hok : HOk X.prog X.w H' s'.heap) (hg : AllBare s'.gens)
    (hch : ∀ b ∈ ch, (b ∈ X.ex ∨ X.s₀.heap.objs.size ≤ b) ∧ b ≠ X.env.locals ∧ (∀ x c, X.env.cells.lookup x = some c → c ≠ b) ∧ ∀ p ∈ X.pn ++ pins, p.1 ≠ b) : Inv X pins σ H' s' := by
  obtain ⟨h', g', d', t', o'⟩ := s'
  have e : o' = s.os := ho
  subst e
  exact I.call (g' := g') (t' := t') (d' := d') u hok hg hch
end
abbrev XK := Value → Option Addr → Hp → Prop
abbrev St := List (Option V)
abbrev VK := V → Hp → Prop
abbrev TE := St → Hp → VK → Prop
abbrev TT := St → Hp → (Bool → Hp → Prop) → Prop
abbrev TA := St → Hp → (List V → Hp → Prop) → Prop
structure Ends where
  nx : St → Hp → Prop
  rt : VK
  bk : St → Hp → Prop := fun _ _ => False
  ct : St → Hp → Prop := fun _ _ => False
abbrev TS := Ends → St → Hp → Prop
def EP (X : Cx) (pins : List (Addr × Obj)) (σ : St) (Q : VK) (u : Value) (s' : Shared) : Prop := ∃ v H', Inv X pins σ H' s' ∧ RelV v u ∧ Q v H'
def TP (X : Cx) (pins : List (Addr × Obj)) (σ : St) (Q : Bool → Hp → Prop) (b : Bool) (s' : Shared) : Prop := ∃ H', Inv X pins σ H' s' ∧ Q b H'
def AP (X : Cx) (pins : List (Addr × Obj)) (σ : St) (Q : List V → Hp → Prop) (us : List Value) (s' : Shared) : Prop := ∃ vs H', Inv X pins σ H' s' ∧ Vals vs us ∧ Q vs H'
def SP (X : Cx) (pins : List (Addr × Obj)) (D : Ends) (f : Flow) (s' : Shared) : Prop :=
  match f with
  | .next => ∃ σ' H', Inv X pins σ' H' s' ∧ D.nx σ' H'
  | .brk => ∃ σ' H', Inv X pins σ' H' s' ∧ D.bk σ' H'
  | .cont => ∃ σ' H', Inv X pins σ' H' s' ∧ D.ct σ' H'
  | .ret u => ∃ v σ' H', Inv X pins σ' H' s' ∧ RelV v u ∧ D.rt v H'
def PE (X : Cx) (e : Expr) (t : TE) : Prop :=
  ∀ (pins : List (Addr × Obj)) (s : Shared) (σ : St) (H : Hp) (Q : VK), Inv X pins σ H s → t σ H Q → wpAny (model X.prog X.w) X.A (eval e X.env) (EP X pins σ Q) X.xe s
def PT (X : Cx) (e : Expr) (t : TT) : Prop :=
  ∀ (pins : List (Addr × Obj)) (s : Shared) (σ : St) (H : Hp) (Q : Bool → Hp → Prop), Inv X pins σ H s → t σ H Q → wpAny (model X.prog X.w) X.A (isTrue e X.env (eval e X.env)) (TP X pins σ Q) X.xe s
def PW (X : Cx) (e : Expr) (t : TT) : Prop :=
  ∀ (whole : Sem Value) (pins : List (Addr × Obj)) (s : Shared) (σ : St) (H : Hp) (Q : Bool → Hp → Prop), Inv X pins σ H s → t σ H Q → wpAny (model X.prog X.w) X.A (isTrue e X.env whole) (TP X pins σ Q) X.xe s
theorem PW.pt {X : Cx} {e : Expr} {t : TT} (h : PW X e t) : PT X e t := h _
def PA (X : Cx) (es : List Expr) (t : TA) : Prop :=
  ∀ (pos : Pos) (pins : List (Addr × Obj)) (s : Shared) (σ : St) (H : Hp) (Q : List V → Hp → Prop), Inv X pins σ H s → t σ H Q → wpAny (model X.prog X.w) X.A (spliced (backTo pos (starEach es X.env))) (AP X pins σ Q) X.xe s
def PS (X : Cx) (st : Stmt) (t : TS) : Prop :=
  ∀ (pins : List (Addr × Obj)) (s : Shared) (σ : St) (H : Hp) (D : Ends), Inv X pins σ H s → t D σ H → wpAny (model X.prog X.w) X.A (exec st X.env) (SP X pins D) X.xe s
def PSs (X : Cx) (st : List Stmt) (t : TS) : Prop :=
  ∀ (pins : List (Addr × Obj)) (s : Shared) (σ : St) (H : Hp) (D : Ends), Inv X pins σ H s → t D σ H → wpAny (model X.prog X.w) X.A (execs st X.env) (SP X pins D) X.xe s
theorem thn {α : Type} {t : Sem α} {Q Q' : α → Shared → Prop} {M : Model} {A : Around} {E : Value → Shared → Prop} {s : Shared} (h : wpAny M A t Q E s) (hQ : ∀ a s, Q a s → Q' a s) : wpAny M A t Q' E s := wpAny_mono h hQ fun _ _ x => x
end L2
namespace L2
open PySem PySem.Spec PyProof.Rows
section
variable {X : Cx}
def tVar (i : Nat) : TE := fun σ H Q => ∃ v, σ[i]? = some (some v) ∧ Q v H
def tC (v : V) : TE := fun _ H Q => Q v H
theorem pe_var {i : Nat} {x : Str} {pos : Pos} (hN : X.N[i]? = some x) (hv : Vis X.env.scope x) (hd : (x == ("__debug__" : Str)) = false := by decide) (hcd : (x == ("__classdict__" : Str)) = false := by decide) : PE X (.Name x pos) (tVar i) := by
  intro pins s σ H Q I h
  obtain ⟨v, e, h⟩ := h
  obtain ⟨m, hn, hl⟩ := I.loc
  obtain ⟨u, r, l⟩ := hl i x v hN e hv
  have fin : EP X pins σ Q u s := ⟨v, H, I, r, h⟩
  rcases l with ⟨hk, hm⟩ | ⟨hk, c, hc, hcell⟩
  · exact wpAny_Name (wpAny_loadName_local I.ok.kind hk hn hm fin) hd
  · rcases hk with hk | hk
    · exact wpAny_Name (wpAny_loadName_cell I.ok.kind hk hc hcell fin) hd
    · exact wpAny_Name (wpAny_loadName_free I.ok.kind hk hc hcell fin hcd) hd
theorem pe_int {i j pos} : PE X (.Constant (.int i) j pos) (tC (.int i)) := fun _ _ _ H _ I h => wpAny_Constant_int ⟨.int i, H, I.tok _, ⟨_, rfl⟩, h⟩
theorem pe_bl {b j pos} : PE X (.Constant (.bool b) j pos) (tC (.bl b)) := fun _ _ _ H _ I h => Constant_bool ⟨.bl b, H, I, rfl, h⟩
theorem pe_non {j pos} : PE X (.Constant .none j pos) (tC .non) := fun _ _ _ H _ I h => Constant_none ⟨.non, H, I, rfl, h⟩
theorem pe_str {x j pos} : PE X (.Constant (.str x) j pos) (tC (.str x)) := fun _ _ _ H _ I h => Calls.Constant_str ⟨.str x, H, I.tok _, ⟨_, rfl⟩, h⟩
def Gl (X : Cx) (x : Str) : Prop := X.env.kindOf x = some .globalImplicit
theorem ld_glob {E : Value → Shared → Prop} {pins : List (Addr × Obj)} {s : Shared} {σ : St} {H : Hp} {x : Str} {u : Value} {pos : Pos} {Q : Value → Shared → Prop} (I : Inv X pins σ H s) (hg : Gl X x) (hm : X.mg x = some u) (h : Q u s)
    (hd : (x == ("__debug__" : Str)) = false := by decide) : wpAny (model X.prog X.w) X.A (eval (.Name x pos) X.env) Q E s :=
  Calls.Name_function_global I.ok.kind hg (Calls.loadGlobal_global (by rw [I.ok.glob]; exact I.mod.glob.keeps I.bk) hm h) hd
theorem ld_blt {E : Value → Shared → Prop} {pins : List (Addr × Obj)} {s : Shared} {σ : St} {H : Hp} {x : Str} {u : Value} {pos : Pos} {Q : Value → Shared → Prop} (I : Inv X pins σ H s) (hg : Gl X x) (hm : X.mg x = none) (hv : bootBuiltins x = some u) (h : Q u s)
    (hn : x ≠ "__name__" := by decide) (hd : (x == ("__debug__" : Str)) = false := by decide) : wpAny (model X.prog X.w) X.A (eval (.Name x pos) X.env) Q E s := by
  obtain ⟨mb, h1, h2⟩ := I.mod.blt
  exact Calls.Name_function_global I.ok.kind hg (Calls.loadGlobal_builtin (by rw [I.ok.glob]; exact I.mod.glob.keeps I.bk) hm (by rw [I.ok.blt]; exact h1.keeps I.bk) ((h2 x hn).trans hv) h) hd
theorem pe_glob {x : Str} {v : V} {u : Value} {pos : Pos} (hg : Gl X x) (hm : X.mg x = some u) (r : RelV v u) (hd : (x == ("__debug__" : Str)) = false := by decide) : PE X (.Name x pos) (tC v) :=
  fun _ _ _ H _ I h => ld_glob I hg hm ⟨v, H, I, r, h⟩ hd
theorem pe_bltn {x : Str} {v : V} {u : Value} {pos : Pos} (hg : Gl X x) (hm : X.mg x = none) (hv : bootBuiltins x = some u) (r : RelV v u) (hn : x ≠ "__name__" := by decide) (hd : (x == ("__debug__" : Str)) = false := by decide) : PE X (.Name x pos) (tC v) :=
  fun _ _ _ H _ I h => ld_blt I hg hm hv ⟨v, H, I, r, h⟩ hn hd
def t2I (ta tb : TE) (k : Int → Int → Hp → Prop) : St → Hp → Prop := fun σ H => ta σ H fun x H1 => tb σ H1 fun y H2 => ∃ i j, x = .int i ∧ y = .int j ∧ k i j H2
def tAdd (ta tb : TE) : TE := fun σ H Q => t2I ta tb (fun i j H2 => Q (.int (i + j)) H2) σ H
def tSub (ta tb : TE) : TE := fun σ H Q => t2I ta tb (fun i j H2 => Q (.int (i - j)) H2) σ H
def tMul (ta tb : TE) : TE := fun σ H Q => t2I ta tb (fun i j H2 => (-(2 ^ 64) < i ∧ i < 2 ^ 64) ∧ Q (.int (i * j)) H2) σ H
variable {a b : Expr} {ta tb : TE} {pos : Pos}
def PC (X : Cx) (op : CmpOp) (a b : Expr) (t : TE) : Prop :=
  ∀ (pins : List (Addr × Obj)) (s : Shared) (σ : St) (H : Hp) (Q : VK), Inv X pins σ H s → t σ H Q →
    wpAny (model X.prog X.w) X.A (eval a X.env) (fun v s₁ => wpAny (model X.prog X.w) X.A (eval b X.env) (fun u s₂ => wpAny (model X.prog X.w) X.A (compareOp op v u) (EP X pins σ Q) X.xe s₂) X.xe s₁) X.xe s
def tCmp (p : Int → Int → Bool) (ta tb : TE) : TE := fun σ H Q => t2I ta tb (fun i j H2 => Q (.bl (p i j)) H2) σ H
abbrev tLt : TE → TE → TE := tCmp fun i j => decide (i < j)
abbrev tLe : TE → TE → TE := tCmp fun i j => decide (i ≤ j)
abbrev tGt : TE → TE → TE := tCmp fun i j => decide (j < i)
abbrev tGe : TE → TE → TE := tCmp fun i j => decide (j ≤ i)
abbrev tEqI : TE → TE → TE := tCmp fun i j => decide (i = j)
abbrev tNeI : TE → TE → TE := tCmp fun i j => !decide (i = j)
def tIsN (ta : TE) : TE := fun σ H Q => ta σ H fun x H1 => Q (.bl (decide (x = .non))) H1
def tNotN (ta : TE) : TE := fun σ H Q => ta σ H fun x H1 => Q (.bl (!decide (x = .non))) H1
def tB (t : TE) : TT := fun σ H Q => t σ H fun x H1 => ∃ c, x = .bl c ∧ Q c H1
theorem pt_val {e : Expr} {t : TE} (h : PE X e t) (he : ∀ whole, isTrue e X.env whole = (do let v ← whole; standAt e.pos; holding [v] (truthy v)) := by intro _; rfl) : PT X e (tB t) := by
  intro pins s σ H Q I hw
  refine isTrue_plain (thn (h pins s σ H _ I hw) fun v s1 ⟨x, H1, I1, r1, q1⟩ => ?_) (he _)
  obtain ⟨d, rfl, q⟩ := q1
  cases r1
  exact wpAny_truthy_bool ⟨H1, I1, q⟩
variable {tA tB' : TT} {rest : List Expr}
def tAnd (t u : TT) : TT := fun σ H Q => t σ H fun c H1 => if c = true then u σ H1 Q else Q false H1
def tOr (t u : TT) : TT := fun σ H Q => t σ H fun c H1 => if c = true then Q true H1 else u σ H1 Q
def tNot (t : TT) : TT := fun σ H Q => t σ H fun c H1 => Q (!c) H1
theorem pw_and1 (ha : PT X a tA) : PW X (.BoolOp .And [a] pos) tA := by
  intro wh pins s σ H Q I h
  refine isTrue_and (thn (ha pins s σ H Q I h) fun c s1 e => ?_)
  cases c with
  | true => exact isTrue_and_nil e
  | false => exact e
theorem pw_or1 (ha : PT X a tA) : PW X (.BoolOp .Or [a] pos) tA := by
  intro wh pins s σ H Q I h
  refine isTrue_or (thn (ha pins s σ H Q I h) fun c s1 e => ?_)
  cases c with
  | false => exact isTrue_or_nil e
  | true => exact e
theorem pw_and (ha : PT X a tA) (hb : PW X (.BoolOp .And (b :: rest) pos) tB') : PW X (.BoolOp .And (a :: b :: rest) pos) (tAnd tA tB') := by
  intro wh pins s σ H Q I h
  refine isTrue_and (thn (ha pins s σ H _ I h) fun c s1 ⟨H1, I1, q1⟩ => ?_)
  cases c with
  | true => exact hb wh pins s1 σ H1 Q I1 q1
  | false => exact ⟨H1, I1, q1⟩
theorem pw_or (ha : PT X a tA) (hb : PW X (.BoolOp .Or (b :: rest) pos) tB') : PW X (.BoolOp .Or (a :: b :: rest) pos) (tOr tA tB') := by
  intro wh pins s σ H Q I h
  refine isTrue_or (thn (ha pins s σ H _ I h) fun c s1 ⟨H1, I1, q1⟩ => ?_)
  cases c with
  | true => exact ⟨H1, I1, q1⟩
  | false => exact hb wh pins s1 σ H1 Q I1 q1
theorem pt_not (ha : PT X a tA) : PT X (.UnaryOp .Not a pos) (tNot tA) := by
  intro pins s σ H Q I h
  exact isTrue_not (ha pins s σ H (fun c H1 => Q (!c) H1) I h)
def tAndV (ta tb : TE) : TE := fun σ H Q => ta σ H fun x H1 => ∃ c, x = .bl c ∧ if c = true then tb σ H1 Q else Q (.bl false) H1
def tOrV (ta tb : TE) : TE := fun σ H Q => ta σ H fun x H1 => ∃ c, x = .bl c ∧ if c = true then Q (.bl true) H1 else tb σ H1 Q
def tNotV (ta : TE) : TE := fun σ H Q => ta σ H fun x H1 => ∃ c, x = .bl c ∧ Q (.bl (!c)) H1
theorem pe_one {op} {t : TE} (h : PE X a t) : PE X (.BoolOp op [a] pos) t := fun pins s σ H Q I hw => BoolOp_one (h pins s σ H Q I hw)
theorem pe_and (ha : PE X a ta) (hb : PE X (.BoolOp .And (b :: rest) pos) tb) : PE X (.BoolOp .And (a :: b :: rest) pos) (tAndV ta tb) := by
  intro pins s σ H Q I h
  refine BoolOp_and (thn (ha pins s σ H _ I h) fun v s1 ⟨x, H1, I1, r1, q1⟩ => ?_)
  obtain ⟨c, rfl, q1⟩ := q1
  cases r1
  refine wpAny_truthy_bool ?_
  cases c with
  | true => exact hb pins s1 σ H1 Q I1 q1
  | false => exact ⟨.bl false, H1, I1, rfl, q1⟩
theorem pe_or (ha : PE X a ta) (hb : PE X (.BoolOp .Or (b :: rest) pos) tb) : PE X (.BoolOp .Or (a :: b :: rest) pos) (tOrV ta tb) := by
  intro pins s σ H Q I h
  refine BoolOp_or (thn (ha pins s σ H _ I h) fun v s1 ⟨x, H1, I1, r1, q1⟩ => ?_)
  obtain ⟨c, rfl, q1⟩ := q1
  cases r1
  refine wpAny_truthy_bool ?_
  cases c with
  | false => exact hb pins s1 σ H1 Q I1 q1
  | true => exact ⟨.bl true, H1, I1, rfl, q1⟩
theorem pe_not (ha : PE X a ta) : PE X (.UnaryOp .Not a pos) (tNotV ta) := by
  intro pins s σ H Q I h
  refine UnaryOp_ (thn (ha pins s σ H _ I h) fun v s1 ⟨x, H1, I1, r1, q1⟩ => ?_)
  obtain ⟨c, rfl, q1⟩ := q1
  cases r1
  exact not_of (wpAny_truthy_bool ⟨.bl (!c), H1, I1, rfl, q1⟩)
def tIf (t : TT) (ta tb : TE) : TE := fun σ H Q => t σ H fun c H1 => if c = true then ta σ H1 Q else tb σ H1 Q
theorem pe_ifExp {c : Expr} (hc : PT X c tA) (ha : PE X a ta) (hb : PE X b tb) : PE X (.IfExp c a b pos) (tIf tA ta tb) := by
  intro pins s σ H Q I h
  refine wpAny_IfExp (thn (hc pins s σ H _ I h) fun d s1 ⟨H1, I1, q1⟩ => ?_)
  cases d with
  | true => exact ha pins s1 σ H1 Q I1 q1
  | false => exact hb pins s1 σ H1 Q I1 q1
end
end L2
namespace L2
open PySem PySem.Spec PyProof.Rows
def SqL (K : PySem.W.Frag) (H : Hp) (a : Addr) (xs : List V) : Prop :=
  Rd H a (.lst xs) ∨
    ∃ (o : Obj) (its : Array Value) (n : Nat), K.lookup a = some o ∧ o.cls = .type "list" ∧ o.dict = none ∧ o.data = .seq its n ∧ its.size ≤ sizeLine ∧ Vals xs its.toList
def SqT (K : PySem.W.Frag) (H : Hp) (a : Addr) (xs : List V) : Prop :=
  Rd H a (.tup xs) ∨
    ∃ (o : Obj) (its : Array Value) (n : Nat), K.lookup a = some o ∧ o.cls = .type "tuple" ∧ o.data = .seq its n ∧ its.size ≤ sizeLine ∧ Vals xs its.toList
def absV : Value → Option V
  | .none => some .non
  | .bool b => some (.bl b)
  | .int i _ => some (.int i)
  | .str x _ => some (.str x)
  | .bytes b _ => some (.byt b)
  | .float b _ => some (.flt b)
  | .ref a => some (.ref a)
  | .type n => some (.ty n)
  | _ => none
theorem RelV.abs {x : V} {u : Value} (r : RelV x u) : absV u = some x := by
  cases x with
  | non => cases r; rfl
  | bl _ => cases r; rfl
  | int _ => obtain ⟨t, rfl⟩ := r; rfl
  | str _ => obtain ⟨t, rfl⟩ := r; rfl
  | byt _ => obtain ⟨t, rfl⟩ := r; rfl
  | flt _ => obtain ⟨t, rfl⟩ := r; rfl
  | ref _ => cases r; rfl
  | ty _ => cases r; rfl
theorem RelV.inj {x y : V} {u : Value} (r : RelV x u) (q : RelV y u) : x = y := Option.some.inj (r.abs.symm.trans q.abs)
theorem Vals.inj : ∀ {xs ys : List V} {us : List Value}, Vals xs us → Vals ys us → xs = ys
  | _, _, _, .nil, .nil => rfl
  | _, _, _, .cons r t, .cons r' t' => by rw [r.inj r', Vals.inj t t']
section
variable {X : Cx} {pins : List (Addr × Obj)} {σ : St} {H : Hp} {s : Shared} {a : Addr} {xs ys : List V}
theorem SqL.of {K : PySem.W.Frag} (h : H a = some (.lst xs)) : SqL K H a xs := .inl (.inl h)
theorem SqT.of {K : PySem.W.Frag} (h : H a = some (.tup xs)) : SqT K H a xs := .inl (.inl h)
theorem Inv.list (I : Inv X pins σ H s) (h : SqL X.K H a xs) : ∃ its : List Value, Vals xs its ∧ PlainL s.heap a its.toArray ∧ xs.length ≤ sizeLine := by
  rcases h with h | ⟨o, its, n, hk, hc, hd, hs, hz, r⟩
  · obtain ⟨z, its, n, r, e⟩ := h.ok I.hok
    exact ⟨its, r, ⟨_, n, e, rfl, rfl, rfl⟩, z⟩
  · refine ⟨its.toList, r, ⟨o, n, I.kIn a o hk, hc, hd, by simpa using hs⟩, ?_⟩
    have e := r.length
    simp only [Array.length_toList] at e
    omega
theorem Inv.tuple (I : Inv X pins σ H s) (h : SqT X.K H a xs) : ∃ its : List Value, Vals xs its ∧ IsTup s.heap a its.toArray ∧ xs.length ≤ sizeLine := by
  rcases h with h | ⟨o, its, n, hk, hc, hs, hz, r⟩
  · obtain ⟨z, its, r, p⟩ := h.ok I.hok
    exact ⟨its, r, p, z⟩
  · refine ⟨its.toList, r, ⟨o, I.kIn a o hk, hc, n, by simpa using hs⟩, ?_⟩
    have e := r.length
    simp only [Array.length_toList] at e
    omega
theorem Inv.list_inj (I : Inv X pins σ H s) (h : SqL X.K H a xs) (h' : SqL X.K H a ys) : xs = ys := by
  obtain ⟨its, r, ⟨o, n, e, _, _, d⟩, _⟩ := I.list h
  obtain ⟨its', r', ⟨o', n', e', _, _, d'⟩, _⟩ := I.list h'
  rw [e] at e'; cases e'
  rw [d] at d'
  injection d' with d1 _
  have : its = its' := by simpa using congrArg Array.toList d1
  subst this
  exact r.inj r'
end
abbrev Cx.wish (X : Cx) (E : Value → Shared → Prop) : Cx := { X with xe := E }
abbrev Cx.nox (X : Cx) : Cx := X.wish fun _ _ => False
theorem Cx.Ok.wish {X : Cx} (ok : X.Ok) (E : Value → Shared → Prop) : (X.wish E).Ok :=
  ⟨ok.mod, ok.kind, ok.glob, ok.blt, ok.above, ok.inj, ok.has, ok.cab, ok.hd, ok.frames, ok.stk, ok.exf, ok.bs, ok.bsz, ok.noex, ok.exfs, ok.funs, ok.frf⟩
theorem Cx.Ok.unwish {X : Cx} {E : Value → Shared → Prop} (ok : (X.wish E).Ok) : X.Ok :=
  ⟨ok.mod, ok.kind, ok.glob, ok.blt, ok.above, ok.inj, ok.has, ok.cab, ok.hd, ok.frames, ok.stk, ok.exf, ok.bs, ok.bsz, ok.noex, ok.exfs, ok.funs, ok.frf⟩
section
variable {X : Cx} {pins : List (Addr × Obj)} {σ : St} {H : Hp} {s : Shared} {E : Value → Shared → Prop}
theorem Inv.wish (I : Inv X pins σ H s) (E : Value → Shared → Prop) : Inv (X.wish E) pins σ H s := ⟨I.ok.wish E, I.os, I.bare, I.base, I.loc, I.cell, I.free, I.freeC, I.pin, I.hok, I.len⟩
theorem Inv.unwish (I : Inv (X.wish E) pins σ H s) : Inv X pins σ H s := ⟨I.ok.unwish, I.os, I.bare, I.base, I.loc, I.cell, I.free, I.freeC, I.pin, I.hok, I.len⟩
theorem SP.unwish {D : Ends} {f : Flow} {s' : Shared} (h : SP (X.wish E) pins D f s') : SP X pins D f s' := by
  cases f with
  | next => obtain ⟨σ', H', I, q⟩ := h; exact ⟨σ', H', I.unwish, q⟩
  | brk => obtain ⟨σ', H', I, q⟩ := h; exact ⟨σ', H', I.unwish, q⟩
  | cont => obtain ⟨σ', H', I, q⟩ := h; exact ⟨σ', H', I.unwish, q⟩
  | ret u => obtain ⟨v, σ', H', I, r, q⟩ := h; exact ⟨v, σ', H', I.unwish, r, q⟩
theorem PE.nox {e : Expr} {t : TE} (h : PE X.nox e t) : PE X e t := fun pins s σ H Q I hw =>
  wpAny_mono (h pins s σ H Q (I.wish _) hw) (fun _ _ ⟨v, H', I', r, q⟩ => ⟨v, H', I'.unwish, r, q⟩) fun _ _ z => False.elim z
theorem PT.nox {e : Expr} {t : TT} (h : PT X.nox e t) : PT X e t := fun pins s σ H Q I hw =>
  wpAny_mono (h pins s σ H Q (I.wish _) hw) (fun _ _ ⟨H', I', q⟩ => ⟨H', I'.unwish, q⟩) fun _ _ z => False.elim z
theorem PSs.nox {st : List Stmt} {t : TS} (h : PSs X.nox st t) : PSs X st t := fun pins s σ H D I hw =>
  wpAny_mono (h pins s σ H D (I.wish _) hw) (fun _ _ q => q.unwish) fun _ _ z => False.elim z
end
section
variable {X : Cx} {st : Stmt} {rest : List Stmt} {t u : TS} {e : Expr} {te : TE} {pos : Pos}
def tNext : TS := fun D σ H => D.nx σ H
def tSeq (t u : TS) : TS := fun D σ H => t { D with nx := u D } σ H
theorem pss_nil : PSs X [] tNext := fun _ _ σ H _ I h => wpAny_execs_nil ⟨σ, H, I, h⟩
theorem pss_cons (h1 : PS X st t) (h2 : PSs X rest u) : PSs X (st :: rest) (tSeq t u) := by
  intro pins s σ H D I h
  refine wpAny_execs_cons (thn (h1 pins s σ H { D with nx := u D } I h) fun f s1 q => ?_)
  cases f with
  | next =>
    obtain ⟨σ', H', I', q⟩ := q
    exact h2 pins s1 σ' H' D I' q
  | ret v => exact q
  | brk => exact q
  | cont => exact q
theorem pss_one (h1 : PS X st t) : PSs X [st] t := by
  intro pins s σ H D I h
  refine wpAny_execs_cons (thn (h1 pins s σ H D I h) fun f s1 q => ?_)
  cases f with
  | next => exact wpAny_execs_nil q
  | ret v => exact q
  | brk => exact q
  | cont => exact q
def tBreak : TS := fun D σ H => D.bk σ H
def tCont : TS := fun D σ H => D.ct σ H
theorem Inv.quiet {pins : List (Addr × Obj)} {σ : St} {H : Hp} {s : Shared} (I : Inv X pins σ H s) : interactive X.env = false := by simp [interactive, I.ok.kind]
def tDrop (te : TE) : TS := fun D σ H => te σ H fun _ H1 => D.nx σ H1
theorem ps_expr (he : PE X e te) (hs : swapsWith e none pos.line X.env = pure false := by rfl) : PS X (.Expr e pos) (tDrop te) := by
  intro pins s σ H D I h
  exact wpAny_Expr_any (thn (he pins s σ H _ I h) fun v s1 ⟨x, H1, I1, r1, q1⟩ => ⟨σ, H1, I1, q1⟩) I.quiet hs
def tRet (te : TE) : TS := fun D σ H => te σ H D.rt
theorem ps_ret (he : PE X e te) : PS X (.Return (some e) pos) (tRet te) := by
  intro pins s σ H D I h
  exact wpAny_Return_some (thn (he pins s σ H _ I h) fun v s1 ⟨x, H1, I1, r1, q1⟩ => ⟨x, σ, H1, I1, r1, q1⟩)
def tRetN : TS := fun D _ H => D.rt .non H
def tIfS (c : TT) (t u : TS) : TS := fun D σ H => c σ H fun b H1 => if b = true then t D σ H1 else u D σ H1
theorem ps_if {c : Expr} {a b : List Stmt} {tc : TT} (hc : PT X c tc) (ha : PSs X a t) (hb : PSs X b u) : PS X (.If c a b pos) (tIfS tc t u) := by
  intro pins s σ H D I h
  refine wpAny_If (thn (hc pins s σ H _ I h) fun d s1 ⟨H1, I1, q1⟩ => ?_)
  cases d with
  | true => exact ha pins s1 σ H1 D I1 q1
  | false => exact hb pins s1 σ H1 D I1 q1
def tNever : TS := fun _ _ _ => False
end
abbrev TG := V → St → Hp → (St → Hp → Prop) → Prop
abbrev TGs := List V → St → Hp → (St → Hp → Prop) → Prop
def PG (X : Cx) (target : Expr) (t : TG) : Prop :=
  ∀ (pins : List (Addr × Obj)) (s : Shared) (σ : St) (H : Hp) (v : V) (u : Value) (Q : St → Hp → Prop), Inv X pins σ H s → RelV v u → t v σ H Q →
    wpAny (model X.prog X.w) X.A (assign target X.env u) (fun _ s' => ∃ σ' H', Inv X pins σ' H' s' ∧ Q σ' H') X.xe s
def PGs (X : Cx) (ts : List Expr) (t : TGs) : Prop :=
  ∀ (pins : List (Addr × Obj)) (s : Shared) (σ : St) (H : Hp) (vs : List V) (us : List Value) (Q : St → Hp → Prop), Inv X pins σ H s → Vals vs us → t vs σ H Q →
    wpAny (model X.prog X.w) X.A (assignInOrder ((assignEach ts X.env).map (·.2)) us) (fun _ s' => ∃ σ' H', Inv X pins σ' H' s' ∧ Q σ' H') X.xe s
abbrev TSet := V → V → V → Hp → (Hp → Prop) → Prop
def PSet (X : Cx) (t : TSet) : Prop :=
  ∀ (pins : List (Addr × Obj)) (s : Shared) (σ : St) (H : Hp) (o i v : V) (ov iv u : Value) (Q : Hp → Prop), Inv X pins σ H s → RelV o ov → RelV i iv → RelV v u → t o i v H Q →
    wpAny (model X.prog X.w) X.A (setItem ov iv u) (fun _ s' => ∃ H', Inv X pins σ H' s' ∧ Q H') X.xe s
abbrev TIp := V → V → Hp → VK → Prop
def PIp (X : Cx) (op : Operator) (t : TIp) : Prop :=
  ∀ (pins : List (Addr × Obj)) (s : Shared) (σ : St) (H : Hp) (x y : V) (v u : Value) (Q : VK), Inv X pins σ H s → RelV x v → RelV y u → t x y H Q →
    wpAny (model X.prog X.w) X.A (inplaceOp op v u) (EP X pins σ Q) X.xe s
section
variable {X : Cx} {pos : Pos}
def gName (i : Nat) : TG := fun v σ H Q => Q (σ.set i (some v)) H
theorem pg_name {i : Nat} {x : Str} (hN : X.N.Nodup) (hi : X.N[i]? = some x) (hx : Loc X.env.scope x) (hf : X.fn x = true ∨ X.env.scope.names.lookup x = some .local := by first | exact .inl rfl | exact .inr rfl | assumption) : PG X (.Name x pos) (gName i) := by
  intro pins s σ H v u Q I r h
  exact wpAny_assign_Name (store_ok I hN hi hx r (fun s' I' => ⟨_, H, I', h⟩) hf)
def gNil : TGs := fun vs σ H Q => vs = [] ∧ Q σ H
def gCons (t : TG) (u : TGs) : TGs := fun vs σ H Q => ∃ v r, vs = v :: r ∧ t v σ H fun σ' H' => u r σ' H' Q
def gTup (K : PySem.W.Frag) (n : Nat) (t : TGs) : TG := fun v σ H Q => ∃ a xs, v = .ref a ∧ SqT K H a xs ∧ xs.length = n ∧ t xs σ H Q
def gSub (to ti : TE) (t : TSet) : TG := fun v σ H Q => to σ H fun o H1 => ti σ H1 fun i H2 => t o i v H2 fun H3 => Q σ H3
def tAsg (te : TE) (g : TG) : TS := fun D σ H => te σ H fun x H1 => g x σ H1 D.nx
theorem ps_set {i : Nat} {x : Str} {e : Expr} {te : TE} {pos' : Pos} (hN : X.N.Nodup) (hi : X.N[i]? = some x) (hx : Loc X.env.scope x) (he : PE X e te) (hs : swapsWith e (some (.Name x pos')) pos.line X.env = pure false := by rfl) (hf : X.fn x = true ∨ X.env.scope.names.lookup x = some .local := by first | exact .inl rfl | exact .inr rfl | assumption) :
    PS X (.Assign [.Name x pos'] e pos) (tAsg te (gName i)) := by
  intro pins s σ H D I h
  refine wpAny_Assign_Name (thn (he pins s σ H _ I h) fun v s1 ⟨y, H1, I1, r1, q1⟩ => ?_) hs
  exact store_ok I1 hN hi hx r1 (fun s2 I2 => ⟨_, H1, I2, q1⟩) hf
def tPar (i j : Nat) (ta : TA) : TS := fun D σ H => ta σ H fun vs H1 => ∃ v w, vs = [v, w] ∧ D.nx ((σ.set i (some v)).set j (some w)) H1
def tAug (i : Nat) (te : TE) (ti : TIp) : TS := fun D σ H => ∃ x, σ[i]? = some (some x) ∧ te σ H fun y H1 => ti x y H1 fun z H2 => D.nx (σ.set i (some z)) H2
theorem ps_aug {i : Nat} {x : Str} {e : Expr} {te : TE} {op : Operator} {ti : TIp} {pos' : Pos} (hN : X.N.Nodup) (hi : X.N[i]? = some x) (hx : Loc X.env.scope x) (he : PE X e te) (ho : PIp X op ti) (hf : X.fn x = true ∨ X.env.scope.names.lookup x = some .local := by first | exact .inl rfl | exact .inr rfl | assumption) :
    PS X (.AugAssign (.Name x pos') op e pos) (tAug i te ti) := by
  intro pins s σ H D I h
  obtain ⟨v, e1, h⟩ := h
  obtain ⟨m, hn, hl⟩ := I.loc
  have vis : Vis X.env.scope x := by rcases hx with k | k; exact .inl k; exact .inr (.inl k)
  obtain ⟨u, r, l⟩ := hl i x v hi e1 vis
  refine wpAny_AugAssign_Name ?_
  have go : wpAny (model X.prog X.w) X.A (eval e X.env) (fun w s₂ => wpAny (model X.prog X.w) X.A (inplaceOp op u w) (fun r s₃ => wpAny (model X.prog X.w) X.A (storeName X.env x r) (fun _ => SP X pins D .next) X.xe s₃) X.xe s₂) X.xe s := by
    refine thn (he pins s σ H _ I h) fun w s1 ⟨y, H1, I1, r1, q1⟩ => ?_
    refine thn (ho pins s1 σ H1 v y u w _ I1 r r1 q1) fun z s2 ⟨zv, H2, I2, r2, q2⟩ => ?_
    exact store_ok I2 hN hi hx r2 (fun s3 I3 => ⟨_, H2, I3, q2⟩) hf
  rcases l with ⟨hk, hm⟩ | ⟨hk, c, hc, hcell⟩
  · exact wpAny_loadName_local I.ok.kind hk hn hm go
  · rcases hk with hk | hk
    · exact wpAny_loadName_cell I.ok.kind hk hc hcell go
    · rcases hx with k | k
      · have : X.env.scope.names.lookup x = some .free := hk
        rw [k] at this; cases this
      · have : X.env.scope.names.lookup x = some .free := hk
        rw [k] at this; cases this
def tAugS (to ti te : TE) (tget : V → V → Hp → VK → Prop) (tip : TIp) (tset : TSet) : TS := fun D σ H => to σ H fun o H1 => ti σ H1 fun i H2 => tget o i H2 fun x H3 => te σ H3 fun y H4 => tip x y H4 fun z H5 => tset o i z H5 fun H6 => D.nx σ H6
def PGet (X : Cx) (t : V → V → Hp → VK → Prop) : Prop :=
  ∀ (pins : List (Addr × Obj)) (s : Shared) (σ : St) (H : Hp) (o i : V) (ov iv : Value) (Q : VK), Inv X pins σ H s → RelV o ov → RelV i iv → t o i H Q →
    wpAny (model X.prog X.w) X.A (getItem ov iv) (EP X pins σ Q) X.xe s
def ipI (f : Int → Int → Int) : TIp := fun x y H Q => ∃ i j, x = .int i ∧ y = .int j ∧ Q (.int (f i j)) H
theorem ip_add : PIp X .Add (ipI fun i j => i + j) := by
  intro pins s σ H x y v u Q I r1 r2 h
  obtain ⟨i, j, e1, e2, q⟩ := h
  subst e1; subst e2
  obtain ⟨t, rfl⟩ := r1
  obtain ⟨t', rfl⟩ := r2
  exact iadd_int ⟨.int _, H, I.tok _, ⟨_, rfl⟩, q⟩
end
section
variable {X : Cx} {pos : Pos}
def tWhile (c : TT) (tb : TS) : TS := fun D σ H => ∃ W : Nat → St → Hp → Prop, (∃ m, W m σ H) ∧ ∀ m σ H, W m σ H →
  c σ H fun b H1 => if b = true then ∃ N : St → Hp → Prop, (∀ σ' H', N σ' H' → ∃ m', m' < m ∧ W m' σ' H') ∧ tb { D with nx := N, ct := N, bk := D.nx } σ H1 else D.nx σ H1
end
structure It where
  go : Nat → Hp → Prop
  yld : Nat → Hp → V → Hp → Prop
  stop : Nat → Hp → Prop
def FpOk (X : Cx) (pins : List (Addr × Obj)) (H : Hp) (b : Addr) : Prop :=
  H b = none ∧ b ≠ X.env.locals ∧ b ∉ X.fs ∧ (b ∈ X.ex ∨ X.s₀.heap.objs.size ≤ b) ∧ (∀ x c, X.env.cells.lookup x = some c → c ≠ b) ∧ ∀ p ∈ X.pn ++ pins, p.1 ≠ b
theorem Inv.fpOk {X : Cx} {pins : List (Addr × Obj)} {σ : St} {H H' : Hp} {s : Shared} {b : Addr} (I : Inv X pins σ H s) (hb : s.heap.objs.size ≤ b) (hn : H' b = none) : FpOk X pins H' b := by
  refine ⟨hn, Nat.ne_of_gt (Nat.lt_of_lt_of_le I.lt hb), I.nofs hb, .inr (Nat.le_trans I.sz hb), fun x c e z => ?_, fun p hp z => ?_⟩
  · obtain ⟨v, q⟩ := I.cell x c e
    exact absurd (Nat.lt_of_lt_of_le q.lt (by rw [z]; exact hb)) (Nat.lt_irrefl _)
  · exact absurd (Nat.lt_of_lt_of_le (Heap.lt_size (I.pin p hp).1) (by rw [z]; exact hb)) (Nat.lt_irrefl _)
structure Turn (P : Program) (w : World) (K : PySem.W.Frag) (tg : Expr) (J : It) (fp : List Addr) (it : Addr) (tn : Nat → Heap → Prop) : Prop where
  mem : it ∈ fp
  obj : ∀ i h, tn i h → ∀ b ∈ fp, ∃ o, h.get? b = some o ∧ ∀ v, o.data ≠ .cell v
  keep : ∀ i h h', tn i h → (∀ b ∈ fp, ∀ o, h.get? b = some o → h'.get? b = some o) → tn i h'
  item : ∀ (X : Cx), X.prog = P → X.w = w → X.K = K → X.calm = true → ∀ (i : Nat) (pins : List (Addr × Obj)) (s : Shared) (σ : St) (H : Hp) (E : Value → Shared → Prop), Inv X pins σ H s → (∀ b ∈ fp, FpOk X pins H b) → tn i s.heap → J.go i H →
    wpAny (model P w) X.A (pyNext (.ref it)) (fun r s1 => ∃ u, r = some u ∧
      wpAny (model P w) X.A (letOwnedTupleGo tg (.ref it) u) (fun _ s2 => ∃ x H', Inv X pins σ H' s2 ∧ RelV x u ∧ J.yld i H x H' ∧ tn (i + 1) s2.heap ∧ ∀ b ∈ fp, H' b = none) E s1) E s
  done : ∀ (X : Cx), X.prog = P → X.w = w → X.K = K → X.calm = true → ∀ (i : Nat) (pins : List (Addr × Obj)) (s : Shared) (σ : St) (H : Hp) (E : Value → Shared → Prop), Inv X pins σ H s → (∀ b ∈ fp, FpOk X pins H b) → tn i s.heap → J.stop i H →
    wpAny (model P w) X.A (pyNext (.ref it)) (fun r s1 => r = none ∧ Inv X pins σ H s1) E s
  self : ∀ (A : Around) (i : Nat) (s : Shared) (Q : Value → Shared → Prop) (E : Value → Shared → Prop), tn i s.heap → Q (.ref it) s → wpAny (model P w) A (pyIter (.ref it)) Q E s
abbrev TI := St → Hp → (It → Hp → Prop) → Prop
def PIE (X : Cx) (pins : List (Addr × Obj)) (σ : St) (tg : Expr) (R : It → Hp → Prop) (itv : Value) (s2 : Shared) : Prop :=
  ∃ (it : Addr) (fp : List Addr) (tn : Nat → Heap → Prop) (J : It) (H' : Hp), itv = .ref it ∧ Inv X pins σ H' s2 ∧ Turn X.prog X.w X.K tg J fp it tn ∧ tn 0 s2.heap ∧ (∀ b ∈ fp, FpOk X pins H' b) ∧ R J H'
def PI (X : Cx) (tg iter : Expr) (wi : TI) : Prop :=
  ∀ (pins : List (Addr × Obj)) (s : Shared) (σ : St) (H : Hp) (R : It → Hp → Prop), Inv X pins σ H s → wi σ H R →
    wpAny (model X.prog X.w) X.A (eval iter X.env) (fun v s1 => wpAny (model X.prog X.w) X.A (pyIter v) (PIE X pins σ tg R) X.xe s1) X.xe s
theorem go_of {M : Model} {A : Around} {E : Value → Shared → Prop} {s : Shared} {tg : Expr} {it : Addr} {u : Value} {o : Obj} {n : String} {vs : Array Value} {Q : Unit → Shared → Prop} (ho : s.heap.get? it = some o) (hc : o.cls = .type n) (hd : o.data = .fields vs)
    (hn : ["enumerate", "zip", "dict_itemiterator", "dict_reverseitemiterator", "odict_iterator", "itertools.zip_longest", "itertools.pairwise"].contains n = false) (hQ : Q () s) : wpAny M A (letOwnedTupleGo tg (.ref it) u) Q E s := by
  unfold letOwnedTupleGo
  cases tg <;> first
    | exact wpAny_pure hQ
    | (cases u <;> first
        | exact wpAny_pure hQ
        | (refine wpAny_bind (wpAny_load ho ?_)
           rw [hc, hd]
           show wpAny M A (if (["enumerate", "zip", "dict_itemiterator", "dict_reverseitemiterator", "odict_iterator", "itertools.zip_longest", "itertools.pairwise"].contains n && vs[0]? == some (rawInt _)) = true then _ else _) Q E s
           rw [if_neg (by intro h; rw [hn, Bool.false_and] at h; cases h)]
           exact wpAny_pure hQ))
def Itl (K : PySem.W.Frag) (a : Addr) : It :=
  ⟨fun i H => ∃ xs x, SqL K H a xs ∧ xs[i]? = some x, fun i H x H' => H' = H ∧ ∀ xs, SqL K H a xs → xs[i]? = some x, fun i H => ∃ xs, SqL K H a xs ∧ xs.length ≤ i⟩
def Itt (K : PySem.W.Frag) (a : Addr) : It :=
  ⟨fun i H => ∃ xs x, SqT K H a xs ∧ xs[i]? = some x, fun i H x H' => H' = H ∧ ∀ xs, SqT K H a xs → xs[i]? = some x, fun i H => ∃ xs, SqT K H a xs ∧ xs.length ≤ i⟩
def Itr (lo : Int) (n : Nat) : It := ⟨fun i _ => i < n, fun i H x H' => H' = H ∧ x = .int (lo + i), fun i _ => n ≤ i⟩
theorem turn_list {P : Program} {w : World} {K : PySem.W.Frag} {tg : Expr} (a it : Addr) : Turn P w K tg (Itl K a) [it] it (fun i h => h.IsListIter it a i) where
  mem := by simp
  obj := fun i h st b hb => by
    have e : b = it := by simpa using hb
    subst e
    obtain ⟨o, e, c, d⟩ := st
    exact ⟨o, e, fun v z => by rw [d] at z; cases z⟩
  keep := fun i h h' st k => st.at fun o e => k it (by simp) o e
  item := by
    intro X hP hw hK hc i pins s σ H E I hf st hg
    subst hP hw hK
    obtain ⟨xs, x, hq, hx⟩ := hg
    obtain ⟨its, rv, p, hz⟩ := I.list hq
    obtain ⟨u, hu, ru⟩ := rv.get hx
    obtain ⟨f0, f1, f2, f3, f4, f5⟩ := hf it (by simp)
    refine wpAny_pyNext_list_item st p.isList (x := u) (by simpa using hu) fun h' st' sb => ?_
    have I1 : Inv X pins σ H { s with heap := h' } := I.turned (t' := s.toks) (fun b o hb e => (sb.2 b hb).trans e) f0 f1 f3 f4 f5
    obtain ⟨o, e, c, d⟩ := id st'
    exact ⟨u, rfl, go_of (s := { s with heap := h' }) e c d (by decide) ⟨x, H, I1, ru, ⟨rfl, fun ys hy => by rw [I.list_inj hy hq]; exact hx⟩, st', fun b hb => (hf b hb).1⟩⟩
  done := by
    intro X hP hw hK hc i pins s σ H E I hf st hg
    subst hP hw hK
    obtain ⟨xs, hq, hx⟩ := hg
    obtain ⟨its, rv, p, hz⟩ := I.list hq
    obtain ⟨f0, f1, f2, f3, f4, f5⟩ := hf it (by simp)
    have hl := rv.length
    exact wpAny_pyNext_list_end (I.ok.hd hc) st p.isList (by simp; omega) fun h' eb => ⟨rfl, I.turned (t' := s.toks) (fun b o hb e => eb b o hb e) f0 f1 f3 f4 f5⟩
  self := fun _ _ _ _ _ st h => wpAny_pyIter_listiter st h
theorem turn_range {P : Program} {w : World} {K : PySem.W.Frag} {tg : Expr} (it : Addr) (lo : Int) (n : Nat) : Turn P w K tg (Itr lo n) [it] it (fun i h => IsRangeIter h it (lo + (i : Nat) * 1) ((n : Int) - (i : Nat)) 1) where
  mem := by simp
  obj := fun i h st b hb => by
    have e : b = it := by simpa using hb
    subst e
    exact ⟨_, st, fun v z => by
      have z' : Data.fields _ = Data.cell v := z
      cases z'⟩
  keep := fun i h h' st k => k it (by simp) _ st
  item := by
    intro X hP hw hK hc i pins s σ H E I hf st hg
    subst hP hw hK
    obtain ⟨f0, f1, f2, f3, f4, f5⟩ := hf it (by simp)
    have W := Walks.range (prog := X.prog) (w := X.w) (I.ok.hd hc) it lo 1 n
    refine W.item i s _ _ hg st fun v h' tk hv st' kk => ?_
    obtain ⟨t, rfl⟩ := hv
    have I1 : Inv X pins σ H { s with heap := h', toks := tk } := I.turned (fun b o hb e => kk b o (by simpa using hb) e) f0 f1 f3 f4 f5
    refine ⟨_, rfl, go_of (s := { s with heap := h', toks := tk }) (n := "range_iterator") st' rfl rfl (by decide) ⟨.int (lo + i), H, I1, ⟨t, ?_⟩, ⟨rfl, rfl⟩, st', fun b hb => (hf b hb).1⟩⟩
    rw [Int.mul_one]
  done := by
    intro X hP hw hK hc i pins s σ H E I hf st hg
    subst hP hw hK
    obtain ⟨f0, f1, f2, f3, f4, f5⟩ := hf it (by simp)
    exact wpAny_pyNext_range_end (I.ok.hd hc) st (by have : n ≤ i := hg; omega) fun h' eb => ⟨rfl, I.turned (t' := s.toks) (fun b o hb e => eb b o hb e) f0 f1 f3 f4 f5⟩
  self := fun _ _ _ _ _ st h => wpAny_pyIter_rangeiter st h
end L2
namespace L2
open PySem PySem.Spec PyProof.Rows
section
variable {X : Cx} {tg : Expr}
def iList (K : PySem.W.Frag) (tl : TE) : TI := fun σ H R => tl σ H fun x H1 => ∃ a, x = .ref a ∧ (∃ xs, SqL K H1 a xs) ∧ R (Itl K a) H1
def iTup (K : PySem.W.Frag) (tl : TE) : TI := fun σ H R => tl σ H fun x H1 => ∃ a, x = .ref a ∧ (∃ xs, SqT K H1 a xs) ∧ R (Itt K a) H1
theorem pi_list {l : Expr} {tl : TE} (hl : PE X l tl) : PI X tg l (iList X.K tl) := by
  intro pins s σ H R I h
  refine thn (hl pins s σ H _ I h) fun v s1 ⟨x, H1, I1, r1, q1⟩ => ?_
  obtain ⟨a, e, ⟨xs, hq⟩, q⟩ := q1
  subst e
  cases r1
  obtain ⟨its, rv, p, hz⟩ := I1.list hq
  refine wpAny_pyIter_list p.isList ?_
  refine ⟨s1.heap.objs.size, [s1.heap.objs.size], _, _, H1, rfl, I1.kept (t' := s1.toks) fun b o e => Heap.get?_push_of_some _ e, turn_list a _, ⟨_, Heap.get?_push_size _ rfl, rfl, rfl⟩, fun b hb => ?_, q⟩
  have e : b = s1.heap.objs.size := by simpa using hb
  subst e
  exact I1.fpOk (Nat.le_refl _) (I1.hok.fresh (Nat.le_refl _))
theorem range_it {pins : List (Addr × Obj)} {σ : St} {H : Hp} {s : Shared} {R : It → Hp → Prop} {E : Value → Shared → Prop} {lo hi : Int} {t u v : Tok} {tk : Nat} (I : Inv X pins σ H s) (h1 : -(2 ^ 62) ≤ lo) (h2 : lo < 2 ^ 62) (h3 : -(2 ^ 62) ≤ hi) (h4 : hi < 2 ^ 62)
    (q : R (Itr lo (hi - lo).toNat) H) : wpAny (model X.prog X.w) X.A (pyIter (.ref s.heap.objs.size)) (PIE X pins σ tg R) E { s with heap := s.heap.push { cls := .type "range", data := .fields #[.int lo t, .int hi u, .int 1 v] }, toks := tk } := by
  refine wpAny_pyIter_range (IsRange.new ..) (small_one h1 h2 h3 h4) ?_
  have I1 : Inv X pins σ H { s with heap := s.heap.push { cls := .type "range", data := .fields #[.int lo t, .int hi u, .int 1 v] }, toks := tk } := I.kept fun b o e => Heap.get?_push_of_some _ e
  refine ⟨(s.heap.push { cls := .type "range", data := .fields #[.int lo t, .int hi u, .int 1 v] }).objs.size, [(s.heap.push { cls := .type "range", data := .fields #[.int lo t, .int hi u, .int 1 v] }).objs.size], _, _, H, rfl,
    I1.kept (t' := tk) fun b o e => Heap.get?_push_of_some _ e, turn_range _ lo (hi - lo).toNat, ?_, fun b hb => ?_, q⟩
  · have e1 : lo + ((0 : Nat) : Int) * 1 = lo := by simp
    have e2 : (((hi - lo).toNat : Nat) : Int) - ((0 : Nat) : Int) = Builtin.Range.rangeSize lo hi 1 := by rw [rangeSize_one]; split <;> omega
    show IsRangeIter _ _ (lo + ((0 : Nat) : Int) * 1) ((((hi - lo).toNat : Nat) : Int) - ((0 : Nat) : Int)) 1
    rw [e1, e2]
    exact Heap.get?_push_size _ rfl
  · have e : b = (s.heap.push { cls := .type "range", data := .fields #[.int lo t, .int hi u, .int 1 v] }).objs.size := by simpa using hb
    subst e
    exact I1.fpOk (Nat.le_refl _) (I1.hok.fresh (Nat.le_refl _))
def iRng1 (ta : TA) : TI := fun σ H R => ta σ H fun vs H1 => ∃ j : Int, vs = [.int j] ∧ -(2 ^ 62) ≤ j ∧ j < 2 ^ 62 ∧ R (Itr 0 j.toNat) H1
def iRng2 (ta : TA) : TI := fun σ H R => ta σ H fun vs H1 => ∃ i j : Int, vs = [.int i, .int j] ∧ (-(2 ^ 62) ≤ i ∧ i < 2 ^ 62 ∧ -(2 ^ 62) ≤ j ∧ j < 2 ^ 62) ∧ R (Itr i (j - i).toNat) H1
theorem pi_range1 {a : Expr} {ta : TA} {p pos : Pos} (hg : Gl X "range") (hm : X.mg "range" = none) (ha : PA X [a] ta) (hs : starEach [a] X.env = [(false, eval a X.env)] := by rfl) : PI X tg (.Call (.Name "range" p) [a] [] pos) (iRng1 ta) := by
  intro pins s σ H R I h
  refine Call_ (ld_blt I hg hm boot_range (PyProof.Rows.callWith_type1 (thn (ha pos pins s σ H _ I h) fun us s1 ⟨vs, H1, I1, r1, q1⟩ => ?_) hs rfl))
  obtain ⟨j, e, q1, q2, q⟩ := q1
  subst e
  cases r1 with
  | cons r rr =>
    cases rr
    obtain ⟨t, rfl⟩ := r
    exact call_range_1 (range_it I1 (by omega) (by omega) q1 q2 (by simpa using q))
def tFor (wi : TI) (g : TG) (tb : TS) : TS := fun D σ H => wi σ H fun J H1 => ∃ W : Nat → Nat → St → Hp → Prop, (∃ m, W 0 m σ H1) ∧ ∀ i m σ H, W i m σ H →
  (J.stop i H ∧ D.nx σ H) ∨ (J.go i H ∧ ∃ N : St → Hp → Prop, (∀ σ' H', N σ' H' → ∃ m', m' < m ∧ W (i + 1) m' σ' H') ∧ ∀ x H', J.yld i H x H' → g x σ H' fun σ2 H2 => tb { D with nx := N, ct := N, bk := D.nx } σ2 H2)
def pinsAt (fp : List Addr) (h : Heap) : List (Addr × Obj) := fp.filterMap fun b => (h.get? b).map fun o => (b, o)
theorem mem_pinsAt {fp : List Addr} {h : Heap} {b : Addr} {o : Obj} (hb : b ∈ fp) (e : h.get? b = some o) : (b, o) ∈ pinsAt fp h := List.mem_filterMap.mpr ⟨b, hb, by rw [e]; rfl⟩
theorem of_pinsAt {fp : List Addr} {h : Heap} {p : Addr × Obj} (hp : p ∈ pinsAt fp h) : p.1 ∈ fp ∧ h.get? p.1 = some p.2 := by
  obtain ⟨b, hb, e⟩ := List.mem_filterMap.mp hp
  cases q : h.get? b with
  | none => rw [q] at e; cases e
  | some o =>
    rw [q] at e
    have e' : (b, o) = p := Option.some.inj e
    subst e'
    exact ⟨hb, q⟩
theorem Inv.pinned {pins : List (Addr × Obj)} {σ : St} {H : Hp} {s : Shared} {fp : List Addr} (I : Inv X pins σ H s) (hf : ∀ b ∈ fp, FpOk X pins H b) (ho : ∀ b ∈ fp, ∃ o, s.heap.get? b = some o ∧ ∀ v, o.data ≠ .cell v) : Inv X (pins ++ pinsAt fp s.heap) σ H s :=
  I.pins_of fun p hp => (List.mem_append.mp hp).elim (fun z => I.pin p (List.mem_append_right _ z)) fun z => by
    obtain ⟨hb, e⟩ := of_pinsAt z
    obtain ⟨f0, f1, f2, _⟩ := hf p.1 hb
    obtain ⟨o, e', d⟩ := ho p.1 hb
    rw [e] at e'; cases e'
    exact ⟨e, f0, f1, f2, d⟩
theorem Inv.unpinned {pins pl : List (Addr × Obj)} {σ : St} {H : Hp} {s : Shared} (I : Inv X (pins ++ pl) σ H s) : Inv X pins σ H s := I.pins_of fun p hp => I.pin p (List.mem_append_right _ (List.mem_append_left _ hp))
theorem ps_for {iter : Expr} {body : List Stmt} {wi : TI} {g : TG} {tb : TS} {pos : Pos} (hp : PassesOwn (model X.prog X.w) X.A X.env X.xe) (hc : X.calm = true) (hi : PI X tg iter wi) (hg : PG X tg g) (hb : PSs X body tb)
    (hs : ∀ x, foldedSetIterable iter X.env x = pure x := by intro _; rfl) : PS X (.For tg iter body [] pos) (tFor wi g tb) := by
  intro pins s σ H D I h
  refine wpAny_For (thn (hi pins s σ H _ I h) fun v s1 h1 => thn h1 fun itv s2 h2 => ?_) hs
  obtain ⟨it, fp, tn, J, H2, e, I2, T, st2, f2, W, ⟨m0, w0⟩, turn⟩ := h2
  subst e
  have stat : ∀ {H' : Hp}, (∀ b ∈ fp, H' b = none) → ∀ b ∈ fp, FpOk X pins H' b := fun hn b hb => ⟨hn b hb, (f2 b hb).2⟩
  refine codeAny_forLoop_any (fun n s' => ∃ i σ' H', Inv X pins σ' H' s' ∧ tn i s'.heap ∧ (∀ b ∈ fp, H' b = none) ∧ W i n σ' H') ?_ m0 ⟨0, σ, H2, I2, st2, fun b hb => (f2 b hb).1, w0⟩
  rintro n s3 ⟨i, σ3, H3, I3, st3, fr3, w3⟩
  rcases turn i n σ3 H3 w3 with ⟨stop, qn⟩ | ⟨go, N, hN, step⟩
  · refine wpAny_passesOwn hp (thn (T.done X rfl rfl rfl hc i pins s3 σ3 H3 X.xe I3 (stat fr3) st3 stop) fun r s4 ⟨hr, I4⟩ => ?_)
    subst hr
    exact wpAny_execs_nil ⟨σ3, H3, I4, qn⟩
  · refine wpAny_passesOwn hp (thn (T.item X rfl rfl rfl hc i pins s3 σ3 H3 X.xe I3 (stat fr3) st3 go) fun r s4 ⟨u, hr, h4⟩ => ?_)
    subst hr
    refine wpAny_passesOwn hp (thn h4 fun _ s5 ⟨x, H5, I5, r5, y5, st5, fr5⟩ => ?_)
    have I5' := I5.pinned (stat fr5) (T.obj _ _ st5)
    refine wpAny_passesOwn hp (thn (hg _ s5 σ3 H5 x u _ I5' r5 (step x H5 y5)) fun _ s6 ⟨σ6, H6, I6, q6⟩ => ?_)
    refine wpAny_passesOwn hp (thn (hb _ s6 σ6 H6 _ I6 q6) fun f s7 q7 => ?_)
    have again : ∀ {σ7 : St} {H7 : Hp}, Inv X (pins ++ pinsAt fp s5.heap) σ7 H7 s7 → N σ7 H7 → ∃ m, m < n ∧ ∃ i σ' H', Inv X pins σ' H' s7 ∧ tn i s7.heap ∧ (∀ b ∈ fp, H' b = none) ∧ W i m σ' H' := fun {σ7 H7} I7 n7 => by
      obtain ⟨m', hm, w7⟩ := hN σ7 H7 n7
      refine ⟨m', hm, i + 1, σ7, H7, I7.unpinned, T.keep _ _ _ st5 fun b hb o e => (I7.pin (b, o) (List.mem_append_right _ (List.mem_append_right _ (mem_pinsAt hb e)))).1, fun b hb => ?_, w7⟩
      obtain ⟨o, e, d⟩ := T.obj _ _ st5 b hb
      exact (I7.pin (b, o) (List.mem_append_right _ (List.mem_append_right _ (mem_pinsAt hb e)))).2.1
    cases f with
    | next => obtain ⟨σ7, H7, I7, n7⟩ := q7; exact again I7 n7
    | cont => obtain ⟨σ7, H7, I7, n7⟩ := q7; exact again I7 n7
    | brk => obtain ⟨σ7, H7, I7, q7⟩ := q7; exact ⟨σ7, H7, I7.unpinned, q7⟩
    | ret v => obtain ⟨x7, σ7, H7, I7, r7, q7⟩ := q7; exact ⟨x7, σ7, H7, I7.unpinned, r7, q7⟩
end
theorem for_list {K : PySem.W.Frag} {a : Addr} {xs : List V} {g : TG} {tb : TS} {D : Ends} {σ : St} {H : Hp} (Pv : Nat → St → Hp → Prop) (h0 : Pv 0 σ H) (hl : ∀ i σ H, i ≤ xs.length → Pv i σ H → SqL K H a xs)
    (hs : ∀ i x σ H, xs[i]? = some x → Pv i σ H → g x σ H fun σ2 H2 => tb { D with nx := Pv (i + 1), ct := Pv (i + 1), bk := D.nx } σ2 H2) (hd : ∀ σ H, Pv xs.length σ H → D.nx σ H) :
    ∃ W : Nat → Nat → St → Hp → Prop, (∃ m, W 0 m σ H) ∧ ∀ i m σ H, W i m σ H →
      ((Itl K a).stop i H ∧ D.nx σ H) ∨ ((Itl K a).go i H ∧ ∃ N : St → Hp → Prop, (∀ σ' H', N σ' H' → ∃ m', m' < m ∧ W (i + 1) m' σ' H') ∧ ∀ x H', (Itl K a).yld i H x H' → g x σ H' fun σ2 H2 => tb { D with nx := N, ct := N, bk := D.nx } σ2 H2) := by
  refine ⟨fun i m σ H => m = xs.length - i ∧ i ≤ xs.length ∧ Pv i σ H, ⟨xs.length, by simp, Nat.zero_le _, h0⟩, ?_⟩
  rintro i m σ H ⟨rfl, hi, p⟩
  have q := hl i σ H hi p
  by_cases hlt : i < xs.length
  · refine .inr ⟨⟨xs, xs[i], q, by simp [hlt]⟩, Pv (i + 1), fun σ' H' p' => ⟨xs.length - (i + 1), by omega, rfl, hlt, p'⟩, fun x H' y => ?_⟩
    obtain ⟨e, y⟩ := y
    subst e
    exact hs i x σ _ (y xs q) p
  · have e : i = xs.length := by omega
    subst e
    exact .inl ⟨⟨xs, q, Nat.le_refl _⟩, hd σ H p⟩
theorem for_range {lo : Int} {n : Nat} {g : TG} {tb : TS} {D : Ends} {σ : St} {H : Hp} (Pv : Nat → St → Hp → Prop) (h0 : Pv 0 σ H)
    (hs : ∀ i σ H, i < n → Pv i σ H → g (.int (lo + i)) σ H fun σ2 H2 => tb { D with nx := Pv (i + 1), ct := Pv (i + 1), bk := D.nx } σ2 H2) (hd : ∀ σ H, Pv n σ H → D.nx σ H) :
    ∃ W : Nat → Nat → St → Hp → Prop, (∃ m, W 0 m σ H) ∧ ∀ i m σ H, W i m σ H →
      ((Itr lo n).stop i H ∧ D.nx σ H) ∨ ((Itr lo n).go i H ∧ ∃ N : St → Hp → Prop, (∀ σ' H', N σ' H' → ∃ m', m' < m ∧ W (i + 1) m' σ' H') ∧ ∀ x H', (Itr lo n).yld i H x H' → g x σ H' fun σ2 H2 => tb { D with nx := N, ct := N, bk := D.nx } σ2 H2) := by
  refine ⟨fun i m σ H => m = n - i ∧ i ≤ n ∧ Pv i σ H, ⟨n, by simp, Nat.zero_le _, h0⟩, ?_⟩
  rintro i m σ H ⟨rfl, hi, p⟩
  by_cases hlt : i < n
  · refine .inr ⟨hlt, Pv (i + 1), fun σ' H' p' => ⟨n - (i + 1), by omega, rfl, hlt, p'⟩, fun x H' y => ?_⟩
    obtain ⟨e, y⟩ := y
    subst e y
    exact hs i σ _ hlt p
  · have e : i = n := by omega
    subst e
    exact .inl ⟨Nat.le_refl _, hd σ H p⟩
end L2
namespace L2
open PySem PySem.Spec PyProof.Rows
abbrev R2 := V → V → Hp → VK → Prop
def OpR (X : Cx) (f : Value → Value → Sem Value) (r : R2) : Prop :=
  ∀ (pins : List (Addr × Obj)) (s : Shared) (σ : St) (H : Hp) (x y : V) (v u : Value) (Q : VK), Inv X pins σ H s → RelV x v → RelV y u → r x y H Q →
    wpAny (model X.prog X.w) X.A (f v u) (EP X pins σ Q) X.xe s
def UnR (X : Cx) (f : Value → Sem Value) (r : V → Hp → VK → Prop) : Prop :=
  ∀ (pins : List (Addr × Obj)) (s : Shared) (σ : St) (H : Hp) (x : V) (v : Value) (Q : VK), Inv X pins σ H s → RelV x v → r x H Q →
    wpAny (model X.prog X.w) X.A (f v) (EP X pins σ Q) X.xe s
def CallR (X : Cx) (f : Value) (r : List V → Hp → VK → Prop) : Prop :=
  ∀ (pins : List (Addr × Obj)) (s : Shared) (σ : St) (H : Hp) (xs : List V) (us : List Value) (Q : VK), Inv X pins σ H s → Vals xs us → r xs H Q →
    wpAny (model X.prog X.w) X.A (call f us) (EP X pins σ Q) X.xe s
def TruR (X : Cx) (r : V → Hp → (Bool → Hp → Prop) → Prop) : Prop :=
  ∀ (pins : List (Addr × Obj)) (s : Shared) (σ : St) (H : Hp) (x : V) (v : Value) (Q : Bool → Hp → Prop), Inv X pins σ H s → RelV x v → r x H Q →
    wpAny (model X.prog X.w) X.A (truthy v) (TP X pins σ Q) X.xe s
def tOp (r : R2) (ta tb : TE) : TE := fun σ H Q => ta σ H fun x H1 => tb σ H1 fun y H2 => r x y H2 Q
def tUn (r : V → Hp → VK → Prop) (ta : TE) : TE := fun σ H Q => ta σ H fun x H1 => r x H1 Q
def rI (C : Int → Int → Prop) (g : Int → Int → V) : R2 := fun x y H Q => ∃ i j, x = .int i ∧ y = .int j ∧ C i j ∧ Q (g i j) H
def rI0 (g : Int → Int → V) : R2 := fun x y H Q => ∃ i j, x = .int i ∧ y = .int j ∧ Q (g i j) H
def rU (g : Int → V) : V → Hp → VK → Prop := fun x H Q => ∃ i, x = .int i ∧ Q (g i) H
section
variable {X : Cx} {a b c : Expr} {ta tb tc : TE} {pos : Pos}
theorem binT (ha : PE X a ta) (hb : PE X b tb) {pins : List (Addr × Obj)} {s : Shared} {σ : St} {H : Hp} {R : V → V → Hp → Prop} (I : Inv X pins σ H s)
    (h : ta σ H fun x H1 => tb σ H1 fun y H2 => R x y H2) {Q : Value → Shared → Prop} {f : Value → Value → Sem Value}
    (hf : ∀ v u s2 x y H2, Inv X pins σ H2 s2 → RelV x v → RelV y u → R x y H2 → wpAny (model X.prog X.w) X.A (f v u) Q X.xe s2) :
    wpAny (model X.prog X.w) X.A (eval a X.env) (fun v s₁ => wpAny (model X.prog X.w) X.A (eval b X.env) (fun u s₂ => wpAny (model X.prog X.w) X.A (f v u) Q X.xe s₂) X.xe s₁) X.xe s := by
  refine thn (ha pins s σ H _ I h) fun v s1 ⟨x, H1, I1, r1, q1⟩ => ?_
  refine thn (hb pins s1 σ H1 _ I1 q1) fun u s2 ⟨y, H2, I2, r2, q2⟩ => ?_
  exact hf v u s2 x y H2 I2 r1 r2 q2
theorem pe_op {op : Operator} {r : R2} (ho : OpR X (binaryOp op) r) (ha : PE X a ta) (hb : PE X b tb) : PE X (.BinOp a op b pos) (tOp r ta tb) := by
  intro pins s σ H Q I h
  exact wpAny_BinOp (binT ha hb I h fun v u s2 x y H2 I2 rx ry q => ho pins s2 σ H2 x y v u Q I2 rx ry q)
theorem pe_un {op : UnaryOp} {r : V → Hp → VK → Prop} (ho : UnR X (unaryOp op) r) (ha : PE X a ta) : PE X (.UnaryOp op a pos) (tUn r ta) := by
  intro pins s σ H Q I h
  exact UnaryOp_ (thn (ha pins s σ H _ I h) fun v s1 ⟨x, H1, I1, r1, q1⟩ => ho pins s1 σ H1 x v Q I1 r1 q1)
theorem opI {f : Value → Value → Sem Value} {C : Int → Int → Prop} {g : Int → Int → Int}
    (rule : ∀ (i j : Int) (t u : Tok) (s : Shared) (Q : Value → Shared → Prop) (E : Value → Shared → Prop), C i j → Q (.int (g i j) s.toks) { s with toks := s.toks + 1 } → wpAny (model X.prog X.w) X.A (f (.int i t) (.int j u)) Q E s) :
    OpR X f (rI C fun i j => .int (g i j)) := by
  intro pins s σ H x y v u Q I rx ry h
  obtain ⟨i, j, rfl, rfl, hc, q⟩ := h
  obtain ⟨t, rfl⟩ := rx
  obtain ⟨t', rfl⟩ := ry
  exact rule i j t t' s _ _ hc ⟨.int (g i j), H, I.tok _, ⟨_, rfl⟩, q⟩
theorem opI0 {f : Value → Value → Sem Value} {g : Int → Int → Int}
    (rule : ∀ (i j : Int) (t u : Tok) (s : Shared) (Q : Value → Shared → Prop) (E : Value → Shared → Prop), Q (.int (g i j) s.toks) { s with toks := s.toks + 1 } → wpAny (model X.prog X.w) X.A (f (.int i t) (.int j u)) Q E s) :
    OpR X f (rI0 fun i j => .int (g i j)) := by
  intro pins s σ H x y v u Q I rx ry h
  obtain ⟨i, j, rfl, rfl, q⟩ := h
  obtain ⟨t, rfl⟩ := rx
  obtain ⟨t', rfl⟩ := ry
  exact rule i j t t' s _ _ ⟨.int (g i j), H, I.tok _, ⟨_, rfl⟩, q⟩
theorem opB0 {f : Value → Value → Sem Value} {g : Int → Int → Bool}
    (rule : ∀ (i j : Int) (t u : Tok) (s : Shared) (Q : Value → Shared → Prop) (E : Value → Shared → Prop), Q (.bool (g i j)) s → wpAny (model X.prog X.w) X.A (f (.int i t) (.int j u)) Q E s) :
    OpR X f (rI0 fun i j => .bl (g i j)) := by
  intro pins s σ H x y v u Q I rx ry h
  obtain ⟨i, j, rfl, rfl, q⟩ := h
  obtain ⟨t, rfl⟩ := rx
  obtain ⟨t', rfl⟩ := ry
  exact rule i j t t' s _ _ ⟨.bl (g i j), H, I, rfl, q⟩
def CDiv (i j : Int) : Prop := 0 < j ∧ j < 1073741824
def CDivN (i j : Int) : Prop := j ≠ 0 ∧ j.natAbs < 1073741824
def CPow (i j : Int) : Prop := 0 ≤ j ∧ j ≤ 1000000 ∧ i.natAbs < 2 ^ 64
def CMul (i j : Int) : Prop := (-(2 ^ 64) < i ∧ i < 2 ^ 64) ∨ (-(2 ^ 64) < j ∧ j < 2 ^ 64)
theorem CMul.ok {i j : Int} (h : CMul i j) : IntMulOk i j := by
  rcases h with ⟨h1, h2⟩ | ⟨h1, h2⟩
  · exact .of_left (intBits_le_64 h1 h2)
  · exact .of_right (intBits_le_64 h1 h2)
theorem op_add : OpR X (binaryOp .Add) (rI0 fun i j => .int (i + j)) := opI0 fun _ _ _ _ _ _ _ q => add_int q
theorem op_sub : OpR X (binaryOp .Sub) (rI0 fun i j => .int (i - j)) := opI0 fun _ _ _ _ _ _ _ q => sub_int q
theorem op_mul : OpR X (binaryOp .Mult) (rI CMul fun i j => .int (i * j)) := opI fun _ _ _ _ _ _ _ hc q => mul_int q hc.ok
theorem op_fdiv : OpR X (binaryOp .FloorDiv) (rI CDiv fun i j => .int (i / j)) := opI fun i j _ _ _ _ _ hc q => by
  have h1 : (0 : Int) < j := hc.1
  have h2 : j < 1073741824 := hc.2
  exact floordiv_int (by omega) (by rw [Int.fdiv_eq_ediv_of_nonneg i (by omega)]; exact q) (.inl (PyProof.noPylong_small (by omega)))
theorem op_mod : OpR X (binaryOp .Mod) (rI (fun _ j => 0 < j) fun i j => .int (i % j)) := opI fun i j _ _ _ _ _ hc q => by
  have h1 : (0 : Int) < j := hc
  exact mod_int' (by omega) (by rw [Int.fmod_eq_emod_of_nonneg i (by omega)]; exact q)
theorem op_modN : OpR X (binaryOp .Mod) (rI (fun _ j => j ≠ 0) fun i j => .int (i.fmod j)) := opI fun _ _ _ _ _ _ _ hc q => mod_int' hc q
theorem op_and : OpR X (binaryOp .BitAnd) (rI0 fun i j => .int (Builtin.bitAnd i j)) := opI0 fun _ _ _ _ _ _ _ q => and_int q
theorem op_or : OpR X (binaryOp .BitOr) (rI0 fun i j => .int (Builtin.bitOr i j)) := opI0 fun _ _ _ _ _ _ _ q => or_int q
theorem op_xor : OpR X (binaryOp .BitXor) (rI0 fun i j => .int (Builtin.bitXor i j)) := opI0 fun _ _ _ _ _ _ _ q => xor_int q
theorem unI {f : Value → Sem Value} {g : Int → Int}
    (rule : ∀ (i : Int) (t : Tok) (s : Shared) (Q : Value → Shared → Prop) (E : Value → Shared → Prop), Q (.int (g i) s.toks) { s with toks := s.toks + 1 } → wpAny (model X.prog X.w) X.A (f (.int i t)) Q E s) :
    UnR X f (rU fun i => .int (g i)) := by
  intro pins s σ H x v Q I rx h
  obtain ⟨i, rfl, q⟩ := h
  obtain ⟨t, rfl⟩ := rx
  exact rule i t s _ _ ⟨.int (g i), H, I.tok _, ⟨_, rfl⟩, q⟩
theorem un_neg : UnR X (unaryOp .USub) (rU fun i => .int (-i)) := unI fun _ _ _ _ _ q => neg_int q
end
def scal : V → V → Bool
  | .non, .non => true | .non, .int _ => true | .int _, .non => true | .non, .bl _ => true | .bl _, .non => true | .non, .str _ => true | .str _, .non => true
  | .int _, .int _ => true | .bl _, .bl _ => true | .str _, .str _ => true | .byt _, .byt _ => true
  | .int _, .str _ => true | .str _, .int _ => true | .bl _, .str _ => true | .str _, .bl _ => true
  | _, _ => false
def rEq : R2 := fun x y H Q => scal x y = true ∧ Q (.bl (decide (x = y))) H
def rNe : R2 := fun x y H Q => scal x y = true ∧ Q (.bl (!decide (x = y))) H
theorem dec_int {i j : Int} : decide (V.int i = V.int j) = (i == j) := by
  rw [Bool.eq_iff_iff]
  simp
theorem dec_bl {i j : Bool} : decide (V.bl i = V.bl j) = (i == j) := by
  rw [Bool.eq_iff_iff]
  simp
theorem dec_str {i j : Str} : decide (V.str i = V.str j) = (i == j) := by
  rw [Bool.eq_iff_iff]
  simp
theorem dec_byt {i j : Array UInt8} : decide (V.byt i = V.byt j) = (i.toList == j.toList) := by
  rw [Bool.eq_iff_iff]
  cases i
  cases j
  simp
section
variable {X : Cx} {a b c : Expr} {ta tb tc : TE} {pos : Pos}
theorem fin_bl {pins : List (Addr × Obj)} {σ : St} {H : Hp} {s : Shared} {Q : VK} {k k' : Bool} (I : Inv X pins σ H s) (q : Q (.bl k) H) (e : k = k') : EP X pins σ Q (.bool k') s := by
  subst e
  exact ⟨.bl k, H, I, rfl, q⟩
theorem op_eq : OpR X (compareOp .Eq) rEq := by
  intro pins s σ H x y v u Q I rx ry h
  obtain ⟨hs, q⟩ := h
  cases x with
  | non =>
    cases rx
    cases y with
    | non => cases ry; exact PySem.EqNone.eq_none_none (fin_bl I q (by simp))
    | bl j => cases ry; exact PySem.EqNone.eq_none_bool (fin_bl I q (by simp))
    | int j => obtain ⟨t', rfl⟩ := ry; exact PySem.EqNone.eq_none_int (fin_bl I q (by simp))
    | str j => obtain ⟨t', rfl⟩ := ry; exact PySem.EqNone.eq_none_str (fin_bl I q (by simp))
    | _ => exact absurd (show false = true from hs) Bool.false_ne_true
  | bl i =>
    cases rx
    cases y with
    | non => cases ry; exact PySem.EqNone.eq_bool_none (fin_bl I q (by simp))
    | bl j => cases ry; exact eq_bool (fin_bl I q dec_bl)
    | str j => obtain ⟨t', rfl⟩ := ry; exact PySem.EqMixed.eq_bool_str (fin_bl I q (by simp))
    | _ => exact absurd (show false = true from hs) Bool.false_ne_true
  | int i =>
    obtain ⟨t, rfl⟩ := rx
    cases y with
    | non => cases ry; exact PySem.EqNone.eq_int_none (fin_bl I q (by simp))
    | int j => obtain ⟨t', rfl⟩ := ry; exact eq_int (fin_bl I q dec_int)
    | str j => obtain ⟨t', rfl⟩ := ry; exact PySem.EqMixed.eq_int_str (fin_bl I q (by simp))
    | _ => exact absurd (show false = true from hs) Bool.false_ne_true
  | str i =>
    obtain ⟨t, rfl⟩ := rx
    cases y with
    | non => cases ry; exact PySem.EqNone.eq_str_none (fin_bl I q (by simp))
    | bl j => cases ry; exact PySem.EqMixed.eq_str_bool (fin_bl I q (by simp))
    | int j => obtain ⟨t', rfl⟩ := ry; exact PySem.EqMixed.eq_str_int (fin_bl I q (by simp))
    | str j => obtain ⟨t', rfl⟩ := ry; exact eq_str (fin_bl I q dec_str)
    | _ => exact absurd (show false = true from hs) Bool.false_ne_true
  | byt i =>
    obtain ⟨t, rfl⟩ := rx
    cases y with
    | byt j => obtain ⟨t', rfl⟩ := ry; exact PySem.W.eq_bytes (fin_bl I q dec_byt)
    | _ => exact absurd (show false = true from hs) Bool.false_ne_true
  | _ => cases y <;> exact absurd (show false = true from hs) Bool.false_ne_true
theorem op_ne : OpR X (compareOp .NotEq) rNe := by
  intro pins s σ H x y v u Q I rx ry h
  obtain ⟨hs, q⟩ := h
  cases x with
  | non =>
    cases rx
    cases y with
    | non => cases ry; exact PySem.EqNone.ne_none_none (fin_bl I q (by simp))
    | bl j => cases ry; exact PySem.EqNone.ne_none_bool (fin_bl I q (by simp))
    | int j => obtain ⟨t', rfl⟩ := ry; exact PySem.EqNone.ne_none_int (fin_bl I q (by simp))
    | str j => obtain ⟨t', rfl⟩ := ry; exact PySem.EqNone.ne_none_str (fin_bl I q (by simp))
    | _ => exact absurd (show false = true from hs) Bool.false_ne_true
  | bl i =>
    cases rx
    cases y with
    | non => cases ry; exact PySem.EqNone.ne_bool_none (fin_bl I q (by simp))
    | bl j => cases ry; exact ne_bool (fin_bl I q (congrArg not dec_bl))
    | str j => obtain ⟨t', rfl⟩ := ry; exact PySem.EqMixed.ne_bool_str (fin_bl I q (by simp))
    | _ => exact absurd (show false = true from hs) Bool.false_ne_true
  | int i =>
    obtain ⟨t, rfl⟩ := rx
    cases y with
    | non => cases ry; exact PySem.EqNone.ne_int_none (fin_bl I q (by simp))
    | int j => obtain ⟨t', rfl⟩ := ry; exact ne_int (fin_bl I q (congrArg not dec_int))
    | str j => obtain ⟨t', rfl⟩ := ry; exact PySem.EqMixed.ne_int_str (fin_bl I q (by simp))
    | _ => exact absurd (show false = true from hs) Bool.false_ne_true
  | str i =>
    obtain ⟨t, rfl⟩ := rx
    cases y with
    | non => cases ry; exact PySem.EqNone.ne_str_none (fin_bl I q (by simp))
    | bl j => cases ry; exact PySem.EqMixed.ne_str_bool (fin_bl I q (by simp))
    | int j => obtain ⟨t', rfl⟩ := ry; exact PySem.EqMixed.ne_str_int (fin_bl I q (by simp))
    | str j => obtain ⟨t', rfl⟩ := ry; exact ne_str (fin_bl I q (congrArg not dec_str))
    | _ => exact absurd (show false = true from hs) Bool.false_ne_true
  | byt i =>
    obtain ⟨t, rfl⟩ := rx
    cases y with
    | byt j => obtain ⟨t', rfl⟩ := ry; exact PySem.W.ne_bytes (fin_bl I q (congrArg not dec_byt))
    | _ => exact absurd (show false = true from hs) Bool.false_ne_true
  | _ => cases y <;> exact absurd (show false = true from hs) Bool.false_ne_true
theorem op_lt : OpR X (compareOp .Lt) (rI0 fun i j => .bl (decide (i < j))) := opB0 fun _ _ _ _ _ _ _ q => lt_int q
theorem op_le : OpR X (compareOp .LtE) (rI0 fun i j => .bl (decide (i ≤ j))) := opB0 fun _ _ _ _ _ _ _ q => le_int q
theorem op_gt : OpR X (compareOp .Gt) (rI0 fun i j => .bl (decide (j < i))) := opB0 fun _ _ _ _ _ _ _ q => gt_int q
theorem op_notN : OpR X (compareOp .IsNot) (fun x y H Q => y = .non ∧ Q (.bl (!decide (x = .non))) H) := by
  intro pins s σ H x y v u Q I rx ry h
  obtain ⟨rfl, q⟩ := h
  cases ry
  refine isnot_none_gen (fin_bl I q ?_)
  cases x <;> first
    | (cases rx; rfl)
    | (obtain ⟨t, rfl⟩ := rx; rfl)
def isObj : HO → Bool
  | .lst _ => true
  | .ins _ _ _ => true
  | _ => false
theorem OpR.or {f : Value → Value → Sem Value} {r r' : R2} (h : OpR X f r) (h' : OpR X f r') : OpR X f (fun x y H Q => r x y H Q ∨ r' x y H Q) := by
  intro pins s σ H x y v u Q I rx ry q
  rcases q with q | q
  · exact h pins s σ H x y v u Q I rx ry q
  · exact h' pins s σ H x y v u Q I rx ry q
theorem nomark (b : Expr) {op : CmpOp} (h : op ≠ .In := by decide) (h2 : op ≠ .NotIn := by decide) : behindInMarks op b = false := by
  have e1 : (op == CmpOp.In) = false := by cases op <;> first | rfl | exact absurd rfl h
  have e2 : (op == CmpOp.NotIn) = false := by cases op <;> first | rfl | exact absurd rfl h2
  cases b <;> simp [behindInMarks, e1, e2]
theorem pe_cmpR {op : CmpOp} {r : R2} (ho : OpR X (compareOp op) r) (ha : PE X a ta) (hb : PE X b tb) (hm : behindInMarks op b = false) : PE X (.Compare a [op] [b] pos) (tOp r ta tb) := by
  intro pins s σ H Q I h
  exact wpAny_Compare1 (binT ha hb I h fun v u s2 x y H2 I2 rx ry q => ho pins s2 σ H2 x y v u Q I2 rx ry q) hm
def tTest (t : TE) : TT := fun σ H Q => t σ H fun x H' => ∃ k, x = .bl k ∧ Q k H'
theorem pt_cmpR {op : CmpOp} {r : R2} (ho : OpR X (compareOp op) r) (ha : PE X a ta) (hb : PE X b tb) (hm : behindInMarks op b = false) : PT X (.Compare a [op] [b] pos) (tTest (tOp r ta tb)) := by
  intro pins s σ H Q I h
  refine wpAny_isTrue_Compare1 (thn (ha pins s σ H _ I h) fun v s1 ⟨x, H1, I1, r1, q1⟩ => thn (hb pins s1 σ H1 _ I1 q1) fun u s2 ⟨y, H2, I2, r2, q2⟩ =>
    thn (ho pins s2 σ H2 x y v u _ I2 r1 r2 q2) fun c s3 ⟨z, H3, I3, r3, k, e, q3⟩ => ?_) hm
  subst e
  cases r3
  exact wpAny_truthy_bool ⟨H3, I3, q3⟩
def tChain (r r' : R2) (ta tb tc : TE) : TE := fun σ H Q => ta σ H fun x H1 => tb σ H1 fun y H2 => r x y H2 fun z H3 => ∃ k, z = .bl k ∧
  (if k = true then tc σ H3 fun w' H4 => r' y w' H4 Q else Q (.bl false) H3)
theorem pe_chain {op op' : CmpOp} {r r' : R2} (ho : OpR X (compareOp op) r) (ho' : OpR X (compareOp op') r') (ha : PE X a ta) (hb : PE X b tb) (hc : PE X c tc)
    (hm : lastMarks [op, op'] [b, c] = false := by with_unfolding_all rfl) : PE X (.Compare a [op, op'] [b, c] pos) (tChain r r' ta tb tc) := by
  intro pins s σ H Q I h
  refine Compare_chain (thn (ha pins s σ H _ I h) fun v s1 ⟨x, H1, I1, r1, q1⟩ => chain_link (thn (hb pins s1 σ H1 _ I1 q1) fun u s2 ⟨y, H2, I2, r2, q2⟩ =>
    thn (ho pins s2 σ H2 x y v u _ I2 r1 r2 q2) fun d s3 ⟨z, H3, I3, r3, k, e, q3⟩ => ?_)) hm
  subst e
  cases r3
  refine wpAny_truthy_bool ?_
  cases k with
  | false => exact ite_ff ⟨.bl false, H3, I3, rfl, q3⟩
  | true => exact ite_tt (chain_last (thn (hc pins s3 σ H3 _ I3 q3) fun w' s4 ⟨z', H4, I4, r4, q4⟩ => ho' pins s4 σ H4 y z' u w' Q I4 r2 r4 q4))
theorem pt_chain {op op' : CmpOp} {r r' : R2} (ho : OpR X (compareOp op) r) (ho' : OpR X (compareOp op') r') (ha : PE X a ta) (hb : PE X b tb) (hc : PE X c tc)
    (hm : lastMarks [op, op'] [b, c] = false := by with_unfolding_all rfl) : PT X (.Compare a [op, op'] [b, c] pos) (tTest (tChain r r' ta tb tc)) := by
  intro pins s σ H Q I h
  refine isTrue_chain (thn (ha pins s σ H _ I h) fun v s1 ⟨x, H1, I1, r1, q1⟩ => test_link (thn (hb pins s1 σ H1 _ I1 q1) fun u s2 ⟨y, H2, I2, r2, q2⟩ =>
    thn (ho pins s2 σ H2 x y v u _ I2 r1 r2 q2) fun d s3 ⟨z, H3, I3, r3, k, e, q3⟩ => ?_)) hm
  subst e
  cases r3
  refine wpAny_truthy_bool ?_
  cases k with
  | false =>
    obtain ⟨k', e', q'⟩ := q3
    cases e'
    exact ite_ff ⟨H3, I3, q'⟩
  | true =>
    refine ite_tt (test_last (thn (hc pins s3 σ H3 _ I3 q3) fun w' s4 ⟨z', H4, I4, r4, q4⟩ => thn (ho' pins s4 σ H4 y z' u w' _ I4 r2 r4 q4) fun d' s5 ⟨z2, H5, I5, r5, k2, e2, q5⟩ => ?_))
    subst e2
    cases r5
    exact wpAny_truthy_bool ⟨H5, I5, q5⟩
def TruV (K : PySem.W.Frag) (x : V) (H : Hp) (k : Bool) : Prop :=
  match x with
  | .non => k = false
  | .bl b => k = b
  | .int i => k = (i != 0)
  | .str y => y.length ≤ sizeLine ∧ k = ((y.length : Int) != 0)
  | .byt y => y.size ≤ sizeLine ∧ k = ((y.size : Int) != 0)
  | .ref p => (∃ xs, SqL K H p xs ∧ k = !xs.isEmpty) ∨ (∃ xs, SqT K H p xs ∧ k = !xs.isEmpty) ∨ ∃ kvs, H p = some (.dK kvs) ∧ k = !kvs.isEmpty
  | _ => False
theorem line63 : (sizeLine : Nat) < 2 ^ 63 := by rw [sizeLine_eq]; decide
def PlainIxT (b : Expr) : Prop := ∀ o i, subscripted b false o i = operate [o, i] (getItem o i)
theorem vals1 {x : V} {us : List Value} (r : Vals [x] us) : ∃ u, us = [u] ∧ RelV x u := by
  cases r with
  | cons r1 r2 => cases r2; exact ⟨_, rfl, r1⟩
theorem vals2 {x y : V} {us : List Value} (r : Vals [x, y] us) : ∃ u w', us = [u, w'] ∧ RelV x u ∧ RelV y w' := by
  cases r with
  | cons r1 r2 =>
    cases r2 with
    | cons r3 r4 => cases r4; exact ⟨_, _, rfl, r1, r3⟩
theorem call_max2 (hc : X.calm = true) : CallR X (.builtin "max") (fun xs H Q => ∃ i j, xs = [.int i, .int j] ∧ Q (.int (if j > i then j else i)) H) := by
  intro pins s σ H xs us Q I r h
  obtain ⟨i, j, rfl, q⟩ := h
  obtain ⟨u, w', rfl, ⟨t, rfl⟩, ⟨t', rfl⟩⟩ := vals2 r
  refine max_two_ints (I.ok.hd hc) fun h' tk k => ⟨_, H, I.kept k, ?_, q⟩
  by_cases hj : j > i
  · rw [if_pos hj, if_pos hj]; exact ⟨_, rfl⟩
  · rw [if_neg hj, if_neg hj]; exact ⟨_, rfl⟩
theorem call_min2 (hc : X.calm = true) : CallR X (.builtin "min") (fun xs H Q => ∃ i j, xs = [.int i, .int j] ∧ Q (.int (if j < i then j else i)) H) := by
  intro pins s σ H xs us Q I r h
  obtain ⟨i, j, rfl, q⟩ := h
  obtain ⟨u, w', rfl, ⟨t, rfl⟩, ⟨t', rfl⟩⟩ := vals2 r
  refine min_two_ints (I.ok.hd hc) fun h' tk k => ⟨_, H, I.kept k, ?_, q⟩
  by_cases hj : j < i
  · rw [if_pos hj, if_pos hj]; exact ⟨_, rfl⟩
  · rw [if_neg hj, if_neg hj]; exact ⟨_, rfl⟩
theorem call_int1 : CallR X (.type "int") (fun xs H Q => (∃ i, xs = [.int i] ∧ Q (.int i) H) ∨ ∃ k, xs = [.bl k] ∧ Q (.int (if k then 1 else 0)) H) := by
  intro pins s σ H xs us Q I r h
  rcases h with ⟨i, rfl, q⟩ | ⟨k, rfl, q⟩
  · obtain ⟨u, rfl, t, rfl⟩ := vals1 r
    exact call_int_int ⟨.int i, H, I, ⟨_, rfl⟩, q⟩
  · obtain ⟨u, rfl, r1⟩ := vals1 r
    cases r1
    exact call_int_bool ⟨.int (if k then 1 else 0), H, I.tok _, ⟨_, rfl⟩, q⟩
def LenV (K : PySem.W.Frag) (x : V) (H : Hp) (n : Nat) : Prop :=
  match x with
  | .str y => y.length ≤ sizeLine ∧ n = y.length
  | .byt y => y.size ≤ sizeLine ∧ n = y.size
  | .ref p => (∃ xs, SqL K H p xs ∧ n = xs.length) ∨ ∃ xs, SqT K H p xs ∧ n = xs.length
  | _ => False
end
end L2
namespace L2
open PySem PySem.Spec PyProof.Rows
structure ObjM (h : Heap) (x dx C : Addr) (mA : Str → Option Value) : Prop where
  obj : h.get? x = some (PySem.W.instObj C dx)
  ns : h.Ns1 dx mA
  ne : dx ≠ x
theorem lookIn_ns {h : Heap} {dx : Addr} {mA : Str → Option Value} (n : h.Ns1 dx mA) : ∃ od, h.get? dx = some od ∧ ∀ name, PySem.W.lookIn name od = some (mA name) := by
  obtain ⟨o, es, ep, ho, hd, hk, _, hm⟩ := n
  refine ⟨o, ho, fun name => ?_⟩
  have e := hm name
  unfold nsFind findBy at e
  rw [← Array.find?_toList] at e
  unfold PySem.W.lookIn
  rw [hd]
  dsimp only
  split
  · rename_i y q
    rw [q] at e
    exact congrArg some e
  · rename_i q
    rw [q] at e
    have a : es.toList.any (·.refKey) = false := by
      rw [List.any_eq_false]
      intro y hy
      obtain ⟨z, t, hkey⟩ := hk y (Array.mem_toList_iff.mp hy)
      simp [DictEntry.refKey, hkey]
    have a' : ¬ es.toList.any (·.refKey) = true := by rw [a]; exact Bool.false_ne_true
    rw [if_neg a']
    exact congrArg some e
theorem ObjM.look {h : Heap} {x dx C : Addr} {mA : Str → Option Value} (I : ObjM h x dx C mA) : ∃ od, PySem.W.InstAt h x (PySem.W.instObj C dx) C (some od) ∧ ∀ name, PySem.W.lookIn name od = some (mA name) :=
  let ⟨od, ho, hl⟩ := lookIn_ns I.ns
  ⟨od, ⟨I.obj, rfl, rfl, ho⟩, hl⟩
section
variable {prog : Program} {w : World} {A : Around} {E : Value → Shared → Prop} {s : Shared} {K : PySem.W.Frag} {x dx C f : Addr} {mA : Str → Option Value} {name : Str} {v : Value}
theorem get_map {expr : Bool} {Q : Value → Shared → Prop} (X : K.In s.heap) (I : ObjM s.heap x dx C mA) (hg : PySem.W.plainGet K C name = true) (hh : PySem.W.hasDictIn K C = true)
    (ha : PySem.W.findIn K (.ref C) name = some none) (hv : mA name = some v) (hv' : PySem.W.handedIn v = true) (h : Q v { s with toks := s.toks + 1 }) :
    wpAny (model prog w) A (getAttr (.ref x) name expr) Q E s := by
  obtain ⟨od, J, hl⟩ := I.look
  exact PySem.W.get_value X J (PySem.W.plainGet_of hg).1 (PySem.W.findObj_own hh ha rfl (by rw [hl, hv])) hv' h
theorem get_meth {pl : Sem Bool} {Q : Value × List Value → Shared → Prop} (X : K.In s.heap) (I : ObjM s.heap x dx C mA) (hg : PySem.W.plainGet K C name = true)
    (hf : PySem.W.findIn K (.ref C) name = some (some (.ref f))) (ht : PySem.W.isFn K (.ref f) = true) (hv : mA name = none) (h : Q (.ref f, [.ref x]) s) :
    wpAny (model prog w) A (getMethod (.ref x) name pl) Q E s := by
  obtain ⟨od, J, hl⟩ := I.look
  exact PySem.W.method_fn X J (PySem.W.plainGet_of hg).1 (PySem.W.plainGet_of hg).2 hf (beq_iff_eq.mp ht) (by show (PySem.W.lookIn name od).map (·.isSome) = some false; rw [hl, hv]; rfl) h
theorem set_map {ns : List Str} {Q : Unit → Shared → Prop} (X : K.In s.heap) (I : ObjM s.heap x dx C mA)
    (hs : PySem.W.findIn K (.ref C) "__setattr__" = some (some (.builtin "object.__setattr__"))) (hp : PySem.W.plainOver K C = true) (ht : PySem.W.takerIn K C name = some none) (hh : PySem.W.hasDictIn K C = true)
    (hw : PySem.Within mA ns) (hsz : ns.length ≤ sizeLine)
    (h : ∀ h', ObjM h' x dx C (fun y => if y = name then some v else mA y) → Heap.SameBut dx s.heap h' → Q () { s with heap := h', toks := s.toks + 2 }) :
    wpAny (model prog w) A (setAttr (.ref x) name v) Q E s := by
  obtain ⟨od, J, hl⟩ := I.look
  refine PySem.W.set_plain X J hs (PySem.W.osa_open (s := { s with toks := s.toks + 1 }) (r := none) X J hp ht fun b => ?_)
  obtain ⟨cd, hc, hd'⟩ := PySem.W.any_some hh
  have hx : s.heap.get? x = some ⟨.ref C, some dx, .plain, #[]⟩ := I.obj
  refine wpAny_bind (wpAny_pure (wpAny_bind (wpAny_bind (wpAny_loadPart hx (wpAny_bind (PySem.W.Looks.here (s := { s with toks := s.toks + 1 }) (PySem.W.looks_clsIn X hc) ?_))))))
  rw [hd']
  refine wpAny_pure (a := some dx) (wpAny_bind (wpAny_pure (wpAny_bind ?_)))
  refine wpAny_nsSet1 (s := { s with toks := s.toks + 1 }) I.ns fun h' hn2 hs2 => ?_
  obtain ⟨oD, esD, epD, hoD, hdD, hcD⟩ := hn2.count (PySem.Within.cons name v hw)
  refine wpAny_bind (wpAny_lookBehind hoD (by rw [hdD]; exact pastItsLine_dict (Nat.le_trans hcD (by rw [List.length_cons]; omega))) ?_)
  exact wpAny_pure (h _ ⟨(hs2.2 _ (Ne.symm I.ne)).trans I.obj, hn2, I.ne⟩ hs2)
theorem make_map {R : Result → Shared → Prop} {vs : List Value} {kw : List (Str × Value)} (X : K.In s.heap) (hm : PySem.W.makesIn K C = true)
    (hi : PySem.W.findIn K (.ref C) "__init__" = some (some (.ref f))) (hf : PySem.W.typeIn K (.ref f) = some (.type "function"))
    (h : codeAny (model prog w) (A.under (.builtin "type.__call__" ⟨.ref C :: vs, kw⟩)) (.call (.ref f) ⟨.ref (s.heap.objs.size + 1) :: vs, kw⟩) (PySem.W.InitBack (s.heap.objs.size + 1) R)
      { s with heap := (s.heap.push PySem.W.emptyDict).push (PySem.W.instObj C s.heap.objs.size) }) :
    codeAny (model prog w) A (.call (.ref C) ⟨vs, kw⟩) R s := by
  obtain ⟨hh, g, d, t, os⟩ := s
  exact PySem.W.make_core (PySem.W.makes_of X hm) (PySem.W.looks_findIn X hi) (fun self => PySem.W.bind_fn X self hf) (.inl rfl) h
theorem make_map0 {R : Result → Shared → Prop} (X : K.In s.heap) (hm : PySem.W.makesIn K C = true)
    (hi : PySem.W.findIn K (.ref C) "__init__" = some (some (.builtin "object.__init__")))
    (hb : ∀ self, PySem.W.Looks (model prog w) s.heap (bindSpecial (.builtin "object.__init__") self) (.builtin "object.__init__", [self]))
    (h : codeAny (model prog w) (A.under (.builtin "type.__call__" ⟨[.ref C], []⟩)) (.call (.builtin "object.__init__") ⟨[.ref (s.heap.objs.size + 1)], []⟩) (PySem.W.InitBack (s.heap.objs.size + 1) R)
      { s with heap := (s.heap.push PySem.W.emptyDict).push (PySem.W.instObj C s.heap.objs.size) }) :
    codeAny (model prog w) A (.call (.ref C) ⟨[], []⟩) R s := by
  obtain ⟨hh, g, d, t, os⟩ := s
  exact PySem.W.make_core (PySem.W.makes_of X hm) (PySem.W.looks_findIn X hi) hb (.inr ⟨rfl, rfl⟩) h
end
def putF (f : Str) (v : V) : List (Str × V) → List (Str × V)
  | [] => [(f, v)]
  | (g, x) :: r => if g = f then (g, v) :: r else (g, x) :: putF f v r
theorem lookup_putF (f g : Str) (v : V) : ∀ fs : List (Str × V), (putF f v fs).lookup g = if g = f then some v else fs.lookup g
  | [] => by
    show List.lookup g [(f, v)] = _
    by_cases h : g = f
    · have hb : (g == f) = true := beq_iff_eq.mpr h
      simp only [List.lookup, hb, if_pos h]
    · have hb : (g == f) = false := beq_eq_false_iff_ne.mpr h
      simp only [List.lookup, hb, if_neg h]
  | (k, x) :: r => by
    have ih := lookup_putF f g v r
    rw [show putF f v ((k, x) :: r) = (if k = f then (k, v) :: r else (k, x) :: putF f v r) from rfl]
    by_cases hk : k = f
    · rw [if_pos hk]
      by_cases h : g = k
      · have hb : (g == k) = true := beq_iff_eq.mpr h
        simp only [List.lookup, hb, if_pos (h.trans hk)]
      · have hb : (g == k) = false := beq_eq_false_iff_ne.mpr h
        simp only [List.lookup, hb, if_neg (fun e : g = f => h (e.trans hk.symm))]
    · rw [if_neg hk]
      by_cases h : g = k
      · have hb : (g == k) = true := beq_iff_eq.mpr h
        simp only [List.lookup, hb, if_neg (fun e : g = f => hk (h.symm.trans e))]
      · have hb : (g == k) = false := beq_eq_false_iff_ne.mpr h
        simp only [List.lookup, hb]
        exact ih
theorem keys_putF (f : Str) (v : V) : ∀ fs : List (Str × V), f ∈ (putF f v fs).map (·.1) ∧ ∀ g, g ∈ fs.map (·.1) → g ∈ (putF f v fs).map (·.1)
  | [] => ⟨by simp [putF], fun g h => by simp at h⟩
  | (k, x) :: r => by
    obtain ⟨i1, i2⟩ := keys_putF f v r
    rw [show putF f v ((k, x) :: r) = (if k = f then (k, v) :: r else (k, x) :: putF f v r) from rfl]
    by_cases hk : k = f
    · rw [if_pos hk]
      subst hk
      exact ⟨by simp, fun g h => by simpa using h⟩
    · rw [if_neg hk]
      refine ⟨?_, fun g h => ?_⟩
      · rw [List.map_cons]
        exact List.mem_cons_of_mem _ i1
      · rw [List.map_cons] at h ⊢
        rcases List.mem_cons.mp h with e | e
        · exact List.mem_cons.mpr (.inl e)
        · exact List.mem_cons_of_mem _ (i2 g e)
theorem length_putF (f : Str) (v : V) : ∀ fs : List (Str × V), (putF f v fs).length ≤ fs.length + 1
  | [] => by simp [putF]
  | (k, x) :: r => by
    have ih := length_putF f v r
    rw [show putF f v ((k, x) :: r) = (if k = f then (k, v) :: r else (k, x) :: putF f v r) from rfl]
    by_cases hk : k = f
    · rw [if_pos hk, List.length_cons, List.length_cons]; omega
    · rw [if_neg hk, List.length_cons, List.length_cons]; omega
theorem RelO.some_of {v : V} {o : Option Value} (r : RelO (some v) o) : ∃ u, o = some u ∧ RelV v u := by
  cases o with
  | none => exact (show False from r).elim
  | some u => exact ⟨u, rfl, r⟩
theorem RelO.none_of {o : Option Value} (r : RelO none o) : o = none := by
  cases o with
  | none => rfl
  | some u => exact (show False from r).elim
theorem handed_of {v : V} {u : Value} (r : RelV v u) : PySem.W.handedIn u = true := by
  cases v with
  | non => cases (show u = Value.none from r); rfl
  | bl b => cases (show u = Value.bool b from r); rfl
  | int i => obtain ⟨t, e⟩ := (show ∃ t, u = Value.int i t from r); cases e; rfl
  | str x => obtain ⟨t, e⟩ := (show ∃ t, u = Value.str x t from r); cases e; rfl
  | byt b => obtain ⟨t, e⟩ := (show ∃ t, u = Value.bytes b t from r); cases e; rfl
  | flt b => obtain ⟨t, e⟩ := (show ∃ t, u = Value.float b t from r); cases e; rfl
  | ref a => cases (show u = Value.ref a from r); rfl
  | ty n => cases (show u = Value.type n from r); rfl
section
variable {P : Program} {w : World} {H H' : Hp} {h h' : Heap} {a C dx : Addr} {fs fs' : List (Str × V)}
theorem ins_get (hok : HOk P w H h) (e : H a = some (.ins C dx fs)) : ∃ mA, ObjM h a dx C mA ∧ (∀ f, RelO (fs.lookup f) (mA f)) ∧ PySem.Within mA (fs.map (·.1)) ∧ fs.length ≤ 1000 ∧ H dx = some (.own a) := by
  obtain ⟨d, z, ne, ob, mA, n, r, q⟩ := (show ObjOk P w H h a (.ins C dx fs) from hok a _ e)
  exact ⟨mA, ⟨ob, n, ne⟩, r, q, z, d⟩
end
structure Cls (K : PySem.W.Frag) (C : Addr) : Prop where
  pg : PySem.W.plainGet K C Str.empty = true
  hd : PySem.W.hasDictIn K C = true
  po : PySem.W.plainOver K C = true
  sa : PySem.W.findIn K (.ref C) "__setattr__" = some (some (.builtin "object.__setattr__"))
theorem Cls.get {K : PySem.W.Frag} {C : Addr} (c : Cls K C) (f : Str) : PySem.W.plainGet K C f = true := c.pg
def NoAttr (K : PySem.W.Frag) (C : Addr) (f : Str) : Prop := PySem.W.findIn K (.ref C) f = some none
theorem NoAttr.taker {K : PySem.W.Frag} {C : Addr} {f : Str} (n : NoAttr K C f) : PySem.W.takerIn K C f = some none := by
  unfold PySem.W.takerIn
  rw [show PySem.W.findIn K (.ref C) f = some none from n]
  rfl
structure Con (K : PySem.W.Frag) (C : Addr) (f : Str) (v : V) (u : Value) : Prop where
  at_ : PySem.W.findIn K (.ref C) f = some (some u)
  rel : RelV v u
  get : PySem.W.specialIn K u "__get__" = some none
  cp : PySem.W.copiedNames.contains f = false
structure Meth (K : PySem.W.Frag) (C : Addr) (m : Str) (f : Addr) : Prop where
  at_ : PySem.W.findIn K (.ref C) m = some (some (.ref f))
  fn : PySem.W.isFn K (.ref f) = true
  kp : PySem.W.keepIn K (.ref f) = true
section
variable {X : Cx} {pins : List (Addr × Obj)} {σ : St} {H : Hp} {s : Shared} {a C dx : Addr} {fs : List (Str × V)} {f : Str} {v : V} {A : Around} {E : Value → Shared → Prop}
theorem getattr_ok {b : Bool} {Q : Value → Shared → Prop} (I : Inv X pins σ H s) (e : H a = some (.ins C dx fs)) (c : Cls X.K C) (n : NoAttr X.K C f) (l : fs.lookup f = some v)
    (h : ∀ u s', Inv X pins σ H s' → RelV v u → Q u s') : wpAny (model X.prog X.w) A (getAttr (.ref a) f b) Q E s := by
  obtain ⟨mA, O, r, _, _, _⟩ := ins_get I.hok e
  obtain ⟨u, hu, ru⟩ := RelO.some_of (v := v) (o := mA f) (by rw [← l]; exact r f)
  exact get_map I.kIn O (c.get f) c.hd n hu (handed_of ru) (h u _ (I.tok _) ru)
theorem getmeth_ok {m : Str} {g : Addr} {pl : Sem Bool} {Q : Value × List Value → Shared → Prop} (I : Inv X pins σ H s) (e : H a = some (.ins C dx fs)) (c : Cls X.K C) (k : Meth X.K C m g) (l : fs.lookup m = none)
    (h : Q (.ref g, [.ref a]) s) : wpAny (model X.prog X.w) A (getMethod (.ref a) m pl) Q E s := by
  obtain ⟨mA, O, r, _, _, _⟩ := ins_get I.hok e
  have hn : mA m = none := RelO.none_of (by rw [← l]; exact r m)
  exact get_meth I.kIn O (c.get m) k.at_ k.fn hn h
theorem setattr_ok {y : V} {u : Value} {Q : Unit → Shared → Prop} (I : Inv X pins σ H s) (e : H a = some (.ins C dx fs)) (c : Cls X.K C) (n : NoAttr X.K C f) (hl : fs.length < 1000) (ry : RelV y u)
    (h : ∀ s', Inv X pins σ (upd H a (.ins C dx (putF f y fs))) s' → Q () s') : wpAny (model X.prog X.w) A (setAttr (.ref a) f u) Q E s := by
  obtain ⟨mA, O, r, wi, _, ho⟩ := ins_get I.hok e
  have hz : (fs.map (·.1)).length ≤ sizeLine := by rw [List.length_map, sizeLine_eq]; omega
  refine set_map I.kIn O c.sa c.po n.taker c.hd wi hz fun h' O' sb => h _ ?_
  have hd : ∃ o, h'.get? dx = some o := let ⟨o, _, _, e', _⟩ := O'.ns; ⟨o, e'⟩
  refine I.write (x := a) (e := dx) (by rw [e]; exact True.intro) (.inr ho) (fun b q hb z => (sb.2 b hb).trans z) hd ?_
  refine ⟨by rw [upd_ne O.ne]; exact ho, ?_, O.ne, O'.obj, _, O'.ns, fun g => ?_, fun g hg => ?_⟩
  · have := length_putF f y fs; omega
  · show RelO ((putF f y fs).lookup g) (if g = f then some u else mA g)
    rw [lookup_putF]
    by_cases q : g = f
    · rw [if_pos q, if_pos q]; exact ry
    · rw [if_neg q, if_neg q]; exact r g
  · by_cases q : g = f
    · rw [q]; exact (keys_putF f y fs).1
    · refine (keys_putF f y fs).2 g (wi g fun z => hg ?_)
      show (if g = f then some u else mA g) = none
      rw [if_neg q]; exact z
theorem Inv.made (I : Inv X pins σ H s) : Inv X pins σ (upd (upd H s.heap.objs.size (.own (s.heap.objs.size + 1))) (s.heap.objs.size + 1) (.ins C s.heap.objs.size []))
    { s with heap := (s.heap.push PySem.W.emptyDict).push (PySem.W.instObj C s.heap.objs.size) } := by
  have e1 : (s.heap.push PySem.W.emptyDict).get? s.heap.objs.size = some PySem.W.emptyDict := Heap.get?_push_size s.heap rfl
  have e2 : ((s.heap.push PySem.W.emptyDict).push (PySem.W.instObj C s.heap.objs.size)).get? (s.heap.objs.size + 1) = some (PySem.W.instObj C s.heap.objs.size) := by
    have := Heap.get?_push_size (s.heap.push PySem.W.emptyDict) (o := PySem.W.instObj C s.heap.objs.size) rfl
    rwa [Heap.size_push] at this
  have e3 : (s.heap.push PySem.W.emptyDict).Ns s.heap.objs.size (fun _ => none) := ⟨PySem.W.emptyDict, #[], _, e1, rfl, (fun e he => absurd he (by simp)), fun _ => rfl⟩
  have I1 := I.laid (a := s.heap.objs.size) (o := .own (s.heap.objs.size + 1)) (h' := s.heap.push PySem.W.emptyDict) (t' := s.toks) (fun b u q => Heap.get?_push_of_some _ q) (Nat.le_refl _) ⟨_, e1⟩
  refine I1.laid (a := s.heap.objs.size + 1) (o := .ins C s.heap.objs.size []) (t' := s.toks) (fun b u q => Heap.get?_push_of_some _ q) (Nat.le_of_eq (Heap.size_push _ _)) ?_
  have ne : s.heap.objs.size ≠ s.heap.objs.size + 1 := Nat.ne_of_lt (Nat.lt_succ_self _)
  refine ⟨by rw [upd_ne ne, upd_same], Nat.zero_le _, ne, e2, fun _ => none, (Heap.Ns1.of_empty e3).at fun o q => Heap.get?_push_of_some _ q, fun _ => True.intro, fun y hy => absurd rfl hy⟩
theorem attr_of {prog : Program} {w : World} {env : Env} {e : Expr} {f : Str} {pos : Pos} {s : Shared} {Q : Value → Shared → Prop} (hb : attributeBase e f env (eval e env) = eval e env)
    (h : wpAny (model prog w) A (eval e env) (fun o s₁ => wpAny (model prog w) A (getAttr o f true) Q E s₁) E s) : wpAny (model prog w) A (eval (.Attribute e f pos) env) Q E s :=
  Attribute_any_ h (by rw [arm_eval_Attribute, hb])
end
def tFld (K : PySem.W.Frag) (ta : TE) (f : Str) : TE := fun σ H Q => ta σ H fun x H1 => ∃ a C dx fs v, x = .ref a ∧ H1 a = some (.ins C dx fs) ∧ Cls K C ∧ NoAttr K C f ∧ fs.lookup f = some v ∧ Q v H1
def tCon (K : PySem.W.Frag) (ta : TE) (f : Str) : TE := fun σ H Q => ta σ H fun x H1 => ∃ a C dx fs v u, x = .ref a ∧ H1 a = some (.ins C dx fs) ∧ Cls K C ∧ Con K C f v u ∧ fs.lookup f = none ∧ Q v H1
def sFld (K : PySem.W.Frag) (ta tv : TE) (f : Str) : TS := fun D σ H => tv σ H fun y H1 => ta σ H1 fun x H2 => ∃ a C dx fs, x = .ref a ∧ H2 a = some (.ins C dx fs) ∧ Cls K C ∧ NoAttr K C f ∧ fs.length < 1000 ∧
  D.nx σ (upd H2 a (.ins C dx (putF f y fs)))
def InOp (X : Cx) (op : Operator) (rd : V → V → Hp → VK → Prop) : Prop :=
  ∀ (pins : List (Addr × Obj)) (s : Shared) (σ : St) (H : Hp) (x y : V) (u v : Value) (Q : VK), Inv X pins σ H s → RelV x u → RelV y v → rd x y H Q → wpAny (model X.prog X.w) X.A (inplaceOp op u v) (EP X pins σ Q) X.xe s
def sFldAug (K : PySem.W.Frag) (ta tv : TE) (rd : V → V → Hp → VK → Prop) (f : Str) : TS := fun D σ H => ta σ H fun x H1 => ∃ a C dx fs v, x = .ref a ∧ H1 a = some (.ins C dx fs) ∧ Cls K C ∧ NoAttr K C f ∧ fs.lookup f = some v ∧
  tv σ H1 fun y H2 => rd v y H2 fun z H3 => ∃ dx' fs', H3 a = some (.ins C dx' fs') ∧ fs'.length < 1000 ∧ D.nx σ (upd H3 a (.ins C dx' (putF f z fs')))
section
variable {X : Cx} {o e value : Expr} {f : Str} {pos pos' tpos : Pos} {ta tv : TE}
theorem pe_fld (he : PE X e ta) (hb : attributeBase e f X.env (eval e X.env) = eval e X.env) : PE X (.Attribute e f pos) (tFld X.K ta f) := by
  intro pins s σ H Q I h
  refine attr_of hb (thn (he pins s σ H _ I h) fun u s1 ⟨x, H1, I1, rx, a, C, dx, fs, v, ex, ea, c, n, l, q⟩ => ?_)
  subst ex
  obtain rfl : u = Value.ref a := rx
  exact getattr_ok I1 ea c n l fun u' s2 I2 ru => ⟨v, H1, I2, ru, q⟩
theorem ps_fld (ha : PE X o ta) (hv : PE X value tv) (hs : swapsWith value (some (.Attribute o f pos')) pos.line X.env = pure false) : PS X (.Assign [.Attribute o f pos'] value pos) (sFld X.K ta tv f) := by
  intro pins s σ H D I h
  refine plainObj_wpAny_Assign_Attribute (thn (hv pins s σ H _ I h) fun u s1 ⟨y, H1, I1, ry, q⟩ => thn (ha pins s1 σ H1 _ I1 q) fun ov s2 ⟨x, H2, I2, rx, a, C, dx, fs, ex, ea, c, n, l, q2⟩ => ?_) hs
  subst ex
  obtain rfl : ov = Value.ref a := rx
  exact setattr_ok I2 ea c n l ry fun s3 I3 => ⟨σ, _, I3, q2⟩
def rAdd : V → V → Hp → VK → Prop := fun x y H Q => ∃ i j, x = .int i ∧ y = .int j ∧ Q (.int (i + j)) H
def rSub : V → V → Hp → VK → Prop := fun x y H Q => ∃ i j, x = .int i ∧ y = .int j ∧ Q (.int (i - j)) H
end
section
variable {X : Cx} {pins : List (Addr × Obj)} {σ : St} {H : Hp} {s : Shared} {A : Around} {E : Value → Shared → Prop} {Q : Value → Shared → Prop} {c : Value} {b : Bool}
inductive TyOf (K : PySem.W.Frag) (H : Hp) : V → Value → Prop where
  | non : TyOf K H .non (.type "NoneType")
  | bl (x : Bool) : TyOf K H (.bl x) (.type "bool")
  | int (i : Int) : TyOf K H (.int i) (.type "int")
  | str (x : Str) : TyOf K H (.str x) (.type "str")
  | flt (x : UInt64) : TyOf K H (.flt x) (.type "float")
  | lst {a : Addr} {xs : List V} (e : H a = some (.lst xs)) : TyOf K H (.ref a) (.type "list")
  | frz {a : Addr} {o : Obj} {xs : List V} (e : H a = some (.frz o (.lst xs))) : TyOf K H (.ref a) (.type "list")
  | tup {a : Addr} {xs : List V} (e : H a = some (.tup xs)) : TyOf K H (.ref a) (.type "tuple")
  | dK {a : Addr} {kvs : List (Key × V)} (e : H a = some (.dK kvs)) : TyOf K H (.ref a) (.type "dict")
  | dT {a : Addr} {kvs : List (List Key × V)} (e : H a = some (.dT kvs)) : TyOf K H (.ref a) (.type "dict")
  | ins {a C dx : Addr} {fs : List (Str × V)} (e : H a = some (.ins C dx fs)) (cl : Cls K C) (ha : PySem.W.findIn K (.ref C) "__class__" = some (some (.builtin "object.__class__")))
      (hn : PySem.W.specialIn K (.builtin "object.__class__") "__get__" = some (some (.builtin "getset_descriptor.__get__"))) (htk : PySem.W.takesIn K (.builtin "object.__class__") = some true)
      (hm : PySem.W.mroIn K C (.type "object") = some true) : TyOf K H (.ref a) (.ref C)
theorem isinst_ok {x : V} {u t : Value} (I : Inv X pins σ H s) (rx : RelV x u) (ty : TyOf X.K H x t) (e : PySem.W.kitOne X.K t c = some b) (h : ∀ tk, Q (.bool b) { s with toks := tk }) :
    wpAny (model X.prog X.w) A (call (.builtin "isinstance") [u, c]) Q E s := by
  cases ty with
  | non => cases (show u = Value.none from rx); exact PySem.W.kia_one PySem.W.kitx_none I.kIn True.intro e (fun z => nomatch z) h
  | bl y => cases (show u = Value.bool y from rx); exact PySem.W.kia_one PySem.W.kitx_bool I.kIn True.intro e (fun z => nomatch z) h
  | int i => obtain ⟨t, q⟩ := (show ∃ t, u = Value.int i t from rx); cases q; exact PySem.W.kia_one PySem.W.kitx_int I.kIn True.intro e (fun z => nomatch z) h
  | str y => obtain ⟨t, q⟩ := (show ∃ t, u = Value.str y t from rx); cases q; exact PySem.W.kia_one PySem.W.kitx_str I.kIn True.intro e (fun z => nomatch z) h
  | flt y => obtain ⟨t, q⟩ := (show ∃ t, u = Value.float y t from rx); cases q; exact PySem.W.kia_one PySem.W.kitx_float I.kIn True.intro e (fun z => nomatch z) h
  | @lst a xs ea =>
    cases (show u = Value.ref a from rx)
    obtain ⟨_, _, n, _, h1⟩ := (show ObjOk X.prog X.w H s.heap a (.lst xs) from I.hok a _ ea)
    exact PySem.W.kia_one PySem.W.kitx_list I.kIn ⟨_, h1, rfl⟩ e (fun z => nomatch z) h
  | @frz a ob xs ea =>
    cases (show u = Value.ref a from rx)
    obtain ⟨_, _, _, n, _, h1⟩ := (show ObjOk X.prog X.w H s.heap a (.frz ob (.lst xs)) from I.hok a _ ea)
    exact PySem.W.kia_one PySem.W.kitx_list I.kIn ⟨_, h1, rfl⟩ e (fun z => nomatch z) h
  | @tup a xs ea =>
    cases (show u = Value.ref a from rx)
    obtain ⟨_, _, _, p⟩ := (show ObjOk X.prog X.w H s.heap a (.tup xs) from I.hok a _ ea)
    obtain ⟨o, h1, h2, _⟩ := p
    exact PySem.W.kia_one PySem.W.kitx_tuple I.kIn ⟨o, h1, h2⟩ e (fun z => nomatch z) h
  | @dK a kvs ea =>
    cases (show u = Value.ref a from rx)
    obtain ⟨_, _, vs, _, p⟩ := (show ObjOk X.prog X.w H s.heap a (.dK kvs) from I.hok a _ ea)
    obtain ⟨o, es, ep, h1, h2, _⟩ := p
    exact PySem.W.kia_one PySem.W.kitx_dict I.kIn ⟨o, h1, h2.1⟩ e (fun z => nomatch z) h
  | @dT a kvs ea =>
    cases (show u = Value.ref a from rx)
    obtain ⟨_, _, xs, _, o, es, ep, h1, h2, _⟩ := (show ObjOk X.prog X.w H s.heap a (.dT kvs) from I.hok a _ ea)
    exact PySem.W.kia_one PySem.W.kitx_dict I.kIn ⟨o, h1, h2.1⟩ e (fun z => nomatch z) h
  | @ins a C dx fs ea cl ha hn htk hm =>
    cases (show u = Value.ref a from rx)
    obtain ⟨mA, O, _⟩ := ins_get I.hok ea
    obtain ⟨od, J, _⟩ := O.look
    exact PySem.W.kia_one (PySem.W.kitx_own (cl.get _) cl.hd ha hn htk hm) I.kIn J e (fun z => nomatch z) h
end
end L2
namespace L2
open PySem PySem.Spec PyProof.Rows
structure Room (k : Nat) (A : Around) : Prop where
  hd : A.handled = none
  dp : A.depth + 3 * k + 5 < recursionLimit
  un : A.units + 16 * k + 200 < cLine
theorem Room.mono {j k : Nat} {A : Around} (r : Room k A) (h : j ≤ k) : Room j A := ⟨r.hd, by have := r.dp; omega, by have := r.un; omega⟩
theorem Room.deeper {k : Nat} {A : Around} (r : Room (k + 1) A) (env : Env) : Room k (A.deeper env) :=
  ⟨r.hd, by have := r.dp; show A.depth + 1 + 3 * k + 5 < _; omega, by have := r.un; show A.units + 3 + 16 * k + 200 < _; omega⟩
theorem make_depth {A : Around} {C : Addr} {us : List Value} {kw : List (Str × Value)} : (A.under (.builtin "type.__call__" ⟨.ref C :: us, kw⟩)).depth = A.depth + 1 := by
  first | rfl | simp [Around.under, Code.weight, Code.isCreation, Code.isGuard, Code.isCaller, Code.frames, Code.isFrame, guardIds]
theorem make_units {A : Around} {C : Addr} {us : List Value} {kw : List (Str × Value)} : (A.under (.builtin "type.__call__" ⟨.ref C :: us, kw⟩)).units = A.units + 1 := by
  first | rfl | simp [Around.under, Code.cUnits, Code.frames, Code.isFrame]
theorem Room.make {k : Nat} {A : Around} (r : Room (k + 1) A) (C : Addr) (us : List Value) (kw : List (Str × Value)) : Room k (A.under (.builtin "type.__call__" ⟨.ref C :: us, kw⟩)) :=
  ⟨r.hd, by have := r.dp; rw [make_depth]; omega, by have := r.un; rw [make_units]; omega⟩
theorem Room.depth {k : Nat} {A : Around} (r : Room k A) : A.depth < recursionLimit := by have := r.dp; omega
theorem Room.units {k : Nat} {A : Around} (r : Room k A) : A.units + 64 < cLine := by have := r.un; omega
def tNil : TA := fun _ H Q => Q [] H
def tCons (ta : TE) (tr : TA) : TA := fun σ H Q => ta σ H fun x H1 => tr σ H1 fun xs H2 => Q (x :: xs) H2
section
variable {X : Cx} {e : Expr} {es : List Expr} {te : TE} {t : TA} {pos : Pos}
theorem pa_nil : PA X [] tNil := fun _ _ _ _ H Q I h => Calls.spliced_nil ⟨[], H, I, .nil, h⟩
theorem pa_cons (ha : PE X e te) (hr : PA X es t) (hs : starEach (e :: es) X.env = (false, eval e X.env) :: starEach es X.env := by rfl) : PA X (e :: es) (tCons te t) := by
  intro pos pins s σ H Q I h
  rw [hs]
  show wpAny _ _ (spliced ((false, eval e X.env) :: backTo pos (starEach es X.env))) _ _ s
  refine Calls.spliced_cons (thn (ha pins s σ H _ I h) fun u s1 ⟨x, H1, I1, r1, q1⟩ => ?_)
  exact thn (hr pos pins s1 σ H1 _ I1 q1) fun us s2 ⟨xs, H2, I2, r2, q2⟩ => ⟨x :: xs, H2, I2, .cons r1 r2, q2⟩
def tTup (t : TA) : TE := fun σ H Q => t σ H fun xs H1 => xs.length ≤ sizeLine ∧ ∀ p, H1 p = none → Q (.ref p) (upd H1 p (.tup xs))
def tLst (t : TA) : TE := fun σ H Q => t σ H fun xs H1 => xs.length ≤ sizeLine ∧ ∀ p, H1 p = none → Q (.ref p) (upd H1 p (.lst xs))
theorem pe_tup {x1} (h : PA X es t) : PE X (.Tuple es x1 pos) (tTup t) := by
  intro pins s σ H Q I hq
  refine wpAny_Tuple_spliced (thn (h pos pins s σ H _ I hq) fun us s1 ⟨xs, H1, I1, r, z, q⟩ => ⟨by rw [← r.length]; exact z, ?_⟩)
  have hf : H1 s1.heap.objs.size = none := I1.hok.fresh (Nat.le_refl _)
  refine ⟨.ref s1.heap.objs.size, upd H1 s1.heap.objs.size (.tup xs), I1.laid (t' := s1.toks) (fun b u e => Heap.get?_push_of_some _ e) (Nat.le_refl _) ?_, rfl, q _ hf⟩
  exact ⟨z, us, r, ⟨_, Heap.get?_push_size _ rfl, rfl, _, rfl⟩⟩
theorem pe_lst (h : PA X es t) : PE X (.List es pos) (tLst t) := by
  intro pins s σ H Q I hq
  refine wpAny_List_spliced (thn (h pos pins s σ H _ I hq) fun us s1 ⟨xs, H1, I1, r, z, q⟩ => ⟨by rw [← r.length]; exact z, ?_⟩)
  have hf : H1 s1.heap.objs.size = none := I1.hok.fresh (Nat.le_refl _)
  refine ⟨.ref s1.heap.objs.size, upd H1 s1.heap.objs.size (.lst xs), I1.laid (t' := s1.toks) (fun b u e => Heap.get?_push_of_some _ e) (Nat.le_refl _) ?_, rfl, q _ hf⟩
  exact ⟨z, us, 0, r, Heap.get?_push_size _ rfl⟩
end
abbrev Sp := List V → Hp → VK → XK → Prop
abbrev CXT := List Env → Hp → Shared → XK → Value → Shared → Prop
structure Env0 (P : Program) (w : World) (K : PySem.W.Frag) (mg : Str → Option Value) (base : Heap) (A : Around) (outer : List Env) (s : Shared) (H : Hp) : Prop where
  frames : A.frames = some outer
  mod : Mod K mg base
  bs : ∀ b o, base.get? b = some o → s.heap.get? b = some o ∧ H b = none
  bsz : base.objs.size ≤ s.heap.objs.size
  funs : s.heap.FunFrames base outer
  frf : ∀ b ∈ frs outer, H b = none
  hok : HOk P w H s.heap
  bare : AllBare s.gens
def CE (outer : List Env) (P : Program) (w : World) (H : Hp) (s : Shared) (Q : VK) (u : Value) (s' : Shared) : Prop :=
  ∃ v H', s'.os = s.os ∧ AllBare s'.gens ∧ Un (frs outer) [] H H' s.heap s'.heap ∧ HOk P w H' s'.heap ∧ RelV v u ∧ Q v H'
def CR (CX : CXT) (outer : List Env) (P : Program) (w : World) (H : Hp) (s : Shared) (Q : VK) (E : XK) (r : Result) (s' : Shared) : Prop :=
  match r with
  | .ok (.ret u) => CE outer P w H s Q u s'
  | .ok _ => False
  | .error e => CX outer H s E e s'
structure FnOk (P : Program) (w : World) (K : PySem.W.Frag) (mg : Str → Option Value) (base : Heap) (CX : CXT) (k : Nat) (f : Addr) (fd : FuncData) (ps : List Str) (sp : Sp) : Prop where
  len : ∀ vs H Q E, sp vs H Q E → vs.length = ps.length
  run : ∀ (A : Around) (outer : List Env) (s : Shared) (H : Hp) (args : Args) (us : List Value) (vs : List V) (Q : VK) (E : XK), Room k A → Env0 P w K mg base A outer s H → BindsTo s fd args (ps.zip us) → Vals vs us → sp vs H Q E →
    codeAny (model P w) A (.call (.ref f) args) (CR CX outer P w H s Q E) s
theorem FnOk.mono {P : Program} {w : World} {K : PySem.W.Frag} {mg : Str → Option Value} {base : Heap} {CX : CXT} {j k : Nat} {f : Addr} {fd : FuncData} {ps : List Str} {sp : Sp} (F : FnOk P w K mg base CX j f fd ps sp) (h : j ≤ k) :
    FnOk P w K mg base CX k f fd ps sp := ⟨F.len, fun A outer s H args us vs Q E hr => F.run A outer s H args us vs Q E (hr.mono h)⟩
theorem FnOk.imp {P : Program} {w : World} {K : PySem.W.Frag} {mg : Str → Option Value} {base : Heap} {CX : CXT} {k : Nat} {f : Addr} {fd : FuncData} {ps : List Str} {sp sp' : Sp} (F : FnOk P w K mg base CX k f fd ps sp)
    (h : ∀ vs H Q E, sp' vs H Q E → sp vs H Q E) : FnOk P w K mg base CX k f fd ps sp' :=
  ⟨fun vs H Q E q => F.len vs H Q E (h _ _ _ _ q), fun A outer s H args us vs Q E hr he hb hv hs => F.run A outer s H args us vs Q E hr he hb hv (h _ _ _ _ hs)⟩
theorem Env0.make {P : Program} {w : World} {K : PySem.W.Frag} {mg : Str → Option Value} {base : Heap} {A : Around} {outer : List Env} {s : Shared} {H : Hp} (e : Env0 P w K mg base A outer s H) (C : Addr) (us : List Value) (kw : List (Str × Value)) :
    Env0 P w K mg base (A.under (.builtin "type.__call__" ⟨.ref C :: us, kw⟩)) outer s H := ⟨by first | exact e.frames | (simpa [Around.under, Code.envs, Code.isFrame, pushEnvs] using e.frames), e.mod, e.bs, e.bsz, e.funs, e.frf, e.hok, e.bare⟩
section
variable {X : Cx} {pins : List (Addr × Obj)} {σ : St} {H : Hp} {s s' : Shared}
theorem Inv.env0 (I : Inv X pins σ H s) : Env0 X.prog X.w X.K X.mg X.base X.A X.stack s H :=
  ⟨I.ok.frames, I.ok.mod, I.bs, Nat.le_trans I.ok.bsz I.sz, I.stack, I.stkFree, I.hok, I.bare⟩
theorem Inv.after {Q : VK} {u : Value} (I : Inv X pins σ H s) (h : CE X.stack X.prog X.w H s Q u s') : EP X pins σ Q u s' := by
  obtain ⟨v, H', os, bare, un, hok, r, q⟩ := h
  obtain ⟨hh, g, d, t, os'⟩ := s'
  obtain rfl : os' = s.os := os
  exact ⟨v, H', I.call (h' := hh) (g' := g) (d' := d) (t' := t) (ch := []) un hok bare (fun b z => absurd z (by simp)), r, q⟩
end
def tCall (sp : Sp) (dvs : List V) (E : XK) (t : TA) : TE := fun σ H Q => t σ H fun vs H1 => sp (vs ++ dvs) H1 Q E
def tMeth (C : Addr) (m : Str) (sp : Sp) (dvs : List V) (E : XK) (ta : TE) (t : TA) : TE := fun σ H Q => ta σ H fun x H1 => ∃ a dx fs, x = .ref a ∧ H1 a = some (.ins C dx fs) ∧ fs.lookup m = none ∧
  t σ H1 fun vs H2 => sp (x :: (vs ++ dvs)) H2 Q E
def tMake (C : Addr) (sp : Sp) (dvs : List V) (E : XK) (t : TA) : TE := fun σ H Q => t σ H fun vs H1 => ∀ x dx, H1 x = none → H1 dx = none → dx ≠ x →
  sp (.ref x :: (vs ++ dvs)) (upd (upd H1 dx (.own x)) x (.ins C dx [])) (fun v H2 => v = .non ∧ Q (.ref x) H2) E
def Binds (K : PySem.W.Frag) (fd : FuncData) (ps : List Str) (ds : List Value) : Prop :=
  ∀ (s : Shared) (us : List Value), K.In s.heap → (us ++ ds).length = ps.length → BindsTo s fd ⟨us, []⟩ (ps.zip (us ++ ds))
theorem Binds.all {K : PySem.W.Frag} {fd : FuncData} {ps : List Str} (h : ∀ us : List Value, us.length = ps.length → bindArgs fd ⟨us, []⟩ = pure (ps.zip us)) : Binds K fd ps [] := fun s us _ hl => by
  rw [List.append_nil] at hl ⊢
  exact .of_eq (h us hl)
def Passes (CX : CXT) (X : Cx) (E : XK) : Prop := ∀ (pins : List (Addr × Obj)) (σ : St) (H : Hp) (s : Shared) (e : Value) (s' : Shared), Inv X pins σ H s → CX X.stack H s E e s' → X.xe e s'
section
variable {X : Cx} {CX : CXT} {k : Nat} {f C : Addr} {fd : FuncData} {ps : List Str} {sp : Sp} {dvs : List V} {ds : List Value} {E : XK} {x m : Str} {p pos apos : Pos} {e o : Expr} {es : List Expr} {ta : TE} {t : TA}
theorem run_fn {pins : List (Addr × Obj)} {σ : St} {H : Hp} {s : Shared} {Q : VK} {us : List Value} {vs : List V} (F : FnOk X.prog X.w X.K X.mg X.base CX k f fd ps sp) (hr : Room k X.A) (hb : Binds X.K fd ps ds) (hd : Vals dvs ds) (hx : Passes CX X E)
    (I : Inv X pins σ H s) (r : Vals vs us) (h : sp (vs ++ dvs) H Q E) : wpAny (model X.prog X.w) X.A (call (.ref f) us) (EP X pins σ Q) X.xe s := by
  have r2 : Vals (vs ++ dvs) (us ++ ds) := r.append hd
  have hl : (us ++ ds).length = ps.length := by rw [← r2.length]; exact F.len _ _ _ _ h
  refine wpAny_call (codeAny_mono (F.run X.A X.stack s H ⟨us, []⟩ (us ++ ds) (vs ++ dvs) Q E hr I.env0 (hb s us I.kIn hl) r2 h) fun r s' hq => ?_)
  cases r with
  | error e => exact hx pins σ H s e s' I hq
  | ok fl =>
    cases fl with
    | ret u => exact I.after hq
    | next => exact False.elim hq
    | brk => exact False.elim hq
    | cont => exact False.elim hq
theorem pe_call (F : FnOk X.prog X.w X.K X.mg X.base CX k f fd ps sp) (hr : Room k X.A) (hg : Gl X x) (hm : X.mg x = some (.ref f)) (hk : PySem.W.keepIn X.K (.ref f) = true) (hb : Binds X.K fd ps ds) (hd : Vals dvs ds) (hx : Passes CX X E)
    (ha : PA X (e :: es) t) (hdb : (x == ("__debug__" : Str)) = false := by decide) (he : starEach (e :: es) X.env = (false, eval e X.env) :: starEach es X.env := by rfl) (hpl : (backTo pos (starEach es X.env)).any (·.1) = false := by rfl) :
    PE X (.Call (.Name x p) (e :: es) [] pos) (tCall sp dvs E t) := by
  intro pins s σ H Q I h
  refine wpAny_Call_Name_kw (ld_glob I hg hm ?_ hdb)
  refine PySem.W.callWith_K (h₀ := X.base) I.ok.mod.kin hk (thn (ha pos pins s σ H _ I h) fun us s1 ⟨vs, H1, I1, r, q⟩ => ⟨I1.kIn, ?_⟩) he hpl
  exact run_fn F hr hb hd hx I1 r q
structure Mk (K : PySem.W.Frag) (C f : Addr) : Prop where
  makes : PySem.W.makesIn K C = true
  init : PySem.W.findIn K (.ref C) "__init__" = some (some (.ref f))
  fn : PySem.W.isFn K (.ref f) = true
  kp : PySem.W.keepIn K (.ref C) = true
theorem run_make {pins : List (Addr × Obj)} {σ : St} {H : Hp} {s : Shared} {Q : VK} {us : List Value} {vs : List V} (M : Mk X.K C f) (F : FnOk X.prog X.w X.K X.mg X.base CX k f fd ps sp) (hr : Room (k + 1) X.A) (hb : Binds X.K fd ps ds) (hd : Vals dvs ds)
    (hx : Passes CX X E) (I : Inv X pins σ H s) (r : Vals vs us)
    (h : ∀ x dx, H x = none → H dx = none → dx ≠ x → sp (.ref x :: (vs ++ dvs)) (upd (upd H dx (.own x)) x (.ins C dx [])) (fun v H2 => v = .non ∧ Q (.ref x) H2) E) :
    wpAny (model X.prog X.w) X.A (call (.ref C) us) (EP X pins σ Q) X.xe s := by
  have hq := h (s.heap.objs.size + 1) s.heap.objs.size (I.hok.fresh (Nat.le_succ _)) (I.hok.fresh (Nat.le_refl _)) (Nat.ne_of_lt (Nat.lt_succ_self _))
  have I2 := Inv.made (C := C) I
  have r2 : Vals (V.ref (s.heap.objs.size + 1) :: (vs ++ dvs)) (Value.ref (s.heap.objs.size + 1) :: (us ++ ds)) := .cons rfl (r.append hd)
  have hl : (Value.ref (s.heap.objs.size + 1) :: us ++ ds).length = ps.length := by
    have e := r2.length
    rw [F.len _ _ _ _ hq] at e
    exact e.symm
  refine wpAny_call (make_map (f := f) I.kIn M.makes M.init (beq_iff_eq.mp M.fn) (codeAny_mono (F.run _ X.stack _ _ ⟨Value.ref (s.heap.objs.size + 1) :: us, []⟩ (Value.ref (s.heap.objs.size + 1) :: (us ++ ds)) _ _ E (hr.make C us [])
    (I2.env0.make C us []) (hb _ (Value.ref (s.heap.objs.size + 1) :: us) I2.kIn hl) r2 hq) fun r s' hq' => ?_))
  cases r with
  | error e => exact hx pins σ _ _ e s' I2 hq'
  | ok fl =>
    cases fl with
    | ret u =>
      obtain ⟨v, H', I3, rv, ev, q3⟩ := I2.after hq'
      subst ev
      exact ⟨rv, ⟨V.ref (s.heap.objs.size + 1), H', I3, rfl, q3⟩⟩
    | next => exact False.elim hq'
    | brk => exact False.elim hq'
    | cont => exact False.elim hq'
theorem pe_make (M : Mk X.K C f) (F : FnOk X.prog X.w X.K X.mg X.base CX k f fd ps sp) (hr : Room (k + 1) X.A) (hg : Gl X x) (hm : X.mg x = some (.ref C)) (hb : Binds X.K fd ps ds) (hd : Vals dvs ds) (hx : Passes CX X E)
    (ha : PA X (e :: es) t) (hdb : (x == ("__debug__" : Str)) = false := by decide) (he : starEach (e :: es) X.env = (false, eval e X.env) :: starEach es X.env := by rfl) (hpl : (backTo pos (starEach es X.env)).any (·.1) = false := by rfl) :
    PE X (.Call (.Name x p) (e :: es) [] pos) (tMake C sp dvs E t) := by
  intro pins s σ H Q I h
  refine wpAny_Call_Name_kw (ld_glob I hg hm ?_ hdb)
  refine PySem.W.callWith_K (h₀ := X.base) I.ok.mod.kin M.kp (thn (ha pos pins s σ H _ I h) fun us s1 ⟨vs, H1, I1, r, q⟩ => ⟨I1.kIn, ?_⟩) he hpl
  exact run_make M F hr hb hd hx I1 r q
end
def PK (X : Cx) (kws : List Keyword) (t : TA) : Prop :=
  ∀ (pos : Pos) (pins : List (Addr × Obj)) (s : Shared) (σ : St) (H : Hp) (Q : List V → Hp → Prop), Inv X pins σ H s → t σ H Q → wpAny (model X.prog X.w) X.A (evalAll ((backToKw pos (keywordEach kws X.env)).map (·.2))) (AP X pins σ Q) X.xe s
section
variable {X : Cx} {CX : CXT} {k : Nat} {f C : Addr} {fd : FuncData} {ps ks : List Str} {sp : Sp} {E : XK} {x m : Str} {p pos apos kpos : Pos} {e o : Expr} {es : List Expr} {kws : List Keyword} {te ta : TE} {t tk : TA} {nm : Option Str}
structure KBinds (K : PySem.W.Frag) (fd : FuncData) (ps ks : List Str) (g : List Value → List Value → List Value) (gV : List V → List V → List V) : Prop where
  to : ∀ (s : Shared) (us ws : List Value), K.In s.heap → (g us ws).length = ps.length → BindsTo s fd ⟨us, ks.zip ws⟩ (ps.zip (g us ws))
  rel : ∀ {vs : List V} {us : List Value} {zs : List V} {ws : List Value}, Vals vs us → Vals zs ws → Vals (gV vs zs) (g us ws)
def tCallK (sp : Sp) (gV : List V → List V → List V) (E : XK) (t tk : TA) : TE := fun σ H Q => t σ H fun vs H1 => tk σ H1 fun zs H2 => sp (gV vs zs) H2 Q E
variable {g : List Value → List Value → List Value} {gV : List V → List V → List V}
end
structure FnScope (N P : List Str) (sc : Scope) : Prop where
  kind : sc.kind = .function
  co : sc.isCoroutine = false
  gen : sc.isGenerator = false
  nd : N.Nodup
  pre : N.take P.length = P
  par : ∀ x ∈ P, sc.names.lookup x = some .local ∨ sc.names.lookup x = some .cell
  nofree : ∀ y ∈ sc.names, y.2 ≠ .free
theorem bindL_out {kindOf : Str → Option NameKind} {x : Str} : ∀ {binds : List (Str × Value)} {m : Str → Option Value}, (∀ v, (x, v) ∉ binds) → bindL kindOf binds m x = m x
  | [], _, _ => rfl
  | (n, v) :: r, m, h => by
    unfold bindL
    rw [bindL_out fun w hw => h w (List.mem_cons_of_mem _ hw)]
    split
    · have : x ≠ n := by rintro rfl; exact h v List.mem_cons_self
      simp [this]
    · rfl
theorem bindC_out {kindOf : Str → Option NameKind} {x : Str} : ∀ {binds : List (Str × Value)} {m : Str → Option Value}, (∀ v, (x, v) ∉ binds) → bindC kindOf binds m x = m x
  | [], _, _ => rfl
  | (n, v) :: r, m, h => by
    unfold bindC
    rw [bindC_out fun w hw => h w (List.mem_cons_of_mem _ hw)]
    split
    · rfl
    · have : x ≠ n := by rintro rfl; exact h v List.mem_cons_self
      simp [this]
theorem bindL_get {kindOf : Str → Option NameKind} {x : Str} {v : Value} : ∀ {P : List Str} {vs : List Value} {i : Nat} {m : Str → Option Value}, P.Nodup → P[i]? = some x → vs[i]? = some v → kindOf x = some .local →
    bindL kindOf (P.zip vs) m x = some v
  | [], _, _, _, _, h, _, _ => by simp at h
  | _ :: _, [], _, _, _, _, h, _ => by simp at h
  | p :: P, w :: vs, 0, m, nd, h1, h2, hk => by
    simp at h1 h2; subst h1; subst h2
    show bindL kindOf ((p, w) :: P.zip vs) m p = _
    unfold bindL
    rw [bindL_out fun v hv => (List.nodup_cons.mp nd).1 (List.of_mem_zip hv).1, if_pos hk]
    simp
  | p :: P, w :: vs, i + 1, m, nd, h1, h2, hk => by
    show bindL kindOf ((p, w) :: P.zip vs) m x = _
    unfold bindL
    exact bindL_get (i := i) (List.nodup_cons.mp nd).2 (by simpa using h1) (by simpa using h2) hk
theorem bindC_get {kindOf : Str → Option NameKind} {x : Str} {v : Value} : ∀ {P : List Str} {vs : List Value} {i : Nat} {m : Str → Option Value}, P.Nodup → P[i]? = some x → vs[i]? = some v → kindOf x ≠ some .local →
    bindC kindOf (P.zip vs) m x = some v
  | [], _, _, _, _, h, _, _ => by simp at h
  | _ :: _, [], _, _, _, _, h, _ => by simp at h
  | p :: P, w :: vs, 0, m, nd, h1, h2, hk => by
    simp at h1 h2; subst h1; subst h2
    show bindC kindOf ((p, w) :: P.zip vs) m p = _
    unfold bindC
    rw [bindC_out fun v hv => (List.nodup_cons.mp nd).1 (List.of_mem_zip hv).1, if_neg hk]
    simp
  | p :: P, w :: vs, i + 1, m, nd, h1, h2, hk => by
    show bindC kindOf ((p, w) :: P.zip vs) m x = _
    unfold bindC
    exact bindC_get (i := i) (List.nodup_cons.mp nd).2 (by simpa using h1) (by simpa using h2) hk
def start (N : List Str) (vs : List V) : St := vs.map some ++ List.replicate (N.length - vs.length) none
def cxOf (CX : CXT) (P : Program) (w : World) (K : PySem.W.Frag) (mg : Str → Option Value) (base : Heap) (N : List Str) (qual : Str) (scope : Scope) (f : Addr) (cd : Value) (A : Around) (outer : List Env) (s : Shared) (H : Hp) (E : XK) : Cx where
  prog := P
  w := w
  K := K
  mg := mg
  base := base
  A := A.deeper (envOfC qual scope s.heap.objs.size f cd)
  N := N
  s₀ := s
  H₀ := H
  env := envOfC qual scope s.heap.objs.size f cd
  outer := outer
  stack := envOfC qual scope s.heap.objs.size f cd :: outer
  ex := []
  calm := true
  fn := fun _ => true
  pn := []
  xe := fun e s' => wpAny (model P w) (A.deeper (envOfC qual scope s.heap.objs.size f cd)) (leaving (envOfC qual scope s.heap.objs.size f cd) e) (fun _ s'' => CX outer H s E e s'') (fun e' s'' => CX outer H s E e' s'') s'
theorem cell_has {sc : Scope} {n : Nat} {x : Str} (h : sc.names.lookup x = some .cell) : ∃ c, (cellsFrom n sc.names []).lookup x = some c := by
  have q := PySem.W.cellsFrom_some sc.names n [] (.inl h)
  exact Option.isSome_iff_exists.mp q
theorem inv_start {CX : CXT} {P : Program} {w : World} {K : PySem.W.Frag} {mg : Str → Option Value} {base : Heap} {N ps : List Str} {qual : Str} {scope : Scope} {f : Addr} {cd : Value} {A : Around} {outer : List Env} {s s1 : Shared} {H : Hp} {E : XK} {us : List Value} {vs : List V}
    (S : FnScope N ps scope) (hd : A.handled = none) (e0 : Env0 P w K mg base A outer s H) (hl : vs.length = ps.length) (r : Vals vs us)
    (x : InCallC s s.heap.objs.size (bindL (envOfC qual scope s.heap.objs.size f cd).kindOf (ps.zip us) fun _ => none) (cellsFrom (s.heap.objs.size + 1) scope.names []) (bindC (envOfC qual scope s.heap.objs.size f cd).kindOf (ps.zip us) fun _ => none) s1) :
    Inv (cxOf CX P w K mg base N qual scope f cd A outer s H E) [] (start N vs) H s1 := by
  have hpl : ps.length ≤ N.length := by have := congrArg List.length S.pre; rw [List.length_take] at this; omega
  obtain ⟨h1, tk, rfl, hk⟩ := x.done
  have noA : ∀ b : Addr, b ∉ (cxOf CX P w K mg base N qual scope f cd A outer s H E).ex := fun b z => absurd (show b ∈ ([] : List Addr) from z) (by simp)
  refine ⟨⟨e0.mod, S.kind, rfl, rfl, Nat.le_refl _, fun y z c h1 h2 => ?_, fun y hy => ?_, fun y c _ h => ?_, fun _ => hd, Around.frames_deeper e0.frames, .inr ⟨rfl, rfl⟩, fun b z => absurd z (noA b), e0.bs, e0.bsz, fun b _ _ => noA b, fun b z => absurd z (noA b), e0.funs, e0.frf⟩,
    rfl, e0.bare, Un.kept hk, ⟨_, x.toInCall.ns, fun i y v h1 h2 h3 => ?_⟩, fun y c h => ⟨_, x.cell y c h⟩, e0.hok.fresh (Nat.le_refl _), fun y c h => ?_, fun p hp => absurd (show p ∈ ([] : List (Addr × Obj)) from hp) (by simp), e0.hok.kept hk, ?_⟩
  · exact name_of_addr x.apart (PySem.mem_of_lookup h1) (PySem.mem_of_lookup h2)
  · have hy : scope.names.lookup y = some .cell ∨ scope.names.lookup y = some .free := hy
    rcases hy with hy | hy
    · exact cell_has hy
    · exact absurd rfl (S.nofree _ (PySem.mem_of_lookup hy))
  · exact Nat.le_of_lt (x.above y c (PySem.mem_of_lookup h))
  · have hi : i < vs.length := by
      unfold start at h2
      by_cases hi : i < vs.length
      · exact hi
      · rw [List.getElem?_append_right (by simpa using hi)] at h2
        rw [List.getElem?_replicate] at h2
        split at h2 <;> cases h2
    have ha : vs[i]? = some v := by
      unfold start at h2
      rw [List.getElem?_append_left (by simpa using hi), List.getElem?_map] at h2
      cases e : vs[i]? with
      | none => rw [e] at h2; cases h2
      | some a => rw [e] at h2; cases h2; rfl
    obtain ⟨u, hu, rv⟩ := r.get ha
    have hp : ps[i]? = some y := by
      rw [← S.pre, List.getElem?_take_of_lt (by omega)]; exact h1
    have ndP : ps.Nodup := by rw [← S.pre]; exact S.nd.sublist (List.take_sublist _ _)
    refine ⟨u, rv, ?_⟩
    rcases S.par y (List.mem_of_getElem? hp) with k | k
    · exact .inl ⟨k, bindL_get ndP hp hu k⟩
    · obtain ⟨c, e⟩ := cell_has (n := s.heap.objs.size + 1) k
      refine .inr ⟨.inl k, c, e, ?_⟩
      have q := x.cell y c e
      rw [bindC_get ndP hp hu (by show scope.names.lookup y ≠ _; rw [k]; decide)] at q
      exact q
  · exact e0.hok.fresh (Nat.le_of_lt (x.above y c (PySem.mem_of_lookup h)))
  · unfold start
    show _ = N.length
    rw [List.length_append, List.length_map, List.length_replicate]
    omega
theorem fn_of {CX : CXT} {P : Program} {w : World} {K : PySem.W.Frag} {mg : Str → Option Value} {base : Heap} {k : Nat} {f : Addr} {name qual : Str} {params : Arguments} {body : List Stmt} {scope : Scope} {dV kV doc pm cdv ct oc : Value} {an od : Option Addr}
    {osl : Array (Option Value)} {N ps : List Str} {sp : Sp} (lk : K.lookup f = some ⟨oc, od, .func (PySem.W.fnOf name qual params body scope dV kV doc pm an cdv ct), osl⟩) (hcd : PySem.W.codeIn K cdv qual = true) (S : FnScope N ps scope)
    (len : ∀ vs H Q E, sp vs H Q E → vs.length = ps.length)
    (hbody : ∀ (A : Around) (outer : List Env) (s : Shared) (H : Hp) (vs : List V) (Q : VK) (E : XK), Room k (A.deeper (envOfC qual scope s.heap.objs.size f cdv)) → sp vs H Q E →
      ∃ t, PSs (cxOf CX P w K mg base N qual scope f cdv A outer s H E) body t ∧ t { nx := fun _ H' => Q .non H', rt := Q } (start N vs) H) :
    FnOk P w K mg base CX (k + 1) f (PySem.W.fnOf name qual params body scope dV kV doc pm an cdv ct) ps sp := by
  refine ⟨len, fun A outer s H args us vs Q E hr e0 hb r hsp => ?_⟩
  have hl := len _ _ _ _ hsp
  have KX : K.In s.heap := e0.mod.kin.keeps fun b o e => (e0.bs b o e).1
  have lim : s.heap.NoLimit := e0.mod.nolimit.keeps fun b o e => (e0.bs b o e).1
  have hkind : ∀ y ∈ ps.zip us, scope.names.lookup y.1 = some .local ∨ (scope.names.lookup y.1 = some .cell ∧ ((cellsFrom (s.heap.objs.size + 1) scope.names []).lookup y.1).isSome = true) := fun ⟨n, v⟩ hy => by
    rcases S.par n (List.of_mem_zip hy).1 with q | q
    · exact .inl q
    · exact .inr ⟨q, PySem.W.cellsFrom_some _ _ _ (.inl q)⟩
  refine codeAny_call_function hr.depth (KX _ _ lk) rfl S.co S.gen rfl (PySem.W.codeRec_of KX hcd) (hb _ _ _ _ ?_)
  refine wpAny_newFunctionEnv_cells S.kind hkind fun env he s1 x => ?_
  subst he
  refine ⟨lim.keeps x.toInCall.keep, codeAny_func ?_⟩
  obtain ⟨t, ht, hq⟩ := hbody A outer s H vs Q E (hr.deeper _) hsp
  have I : Inv (cxOf CX P w K mg base N qual scope f cdv A outer s H E) [] (start N vs) H s1 := inv_start S hr.hd e0 hl r x
  refine wpAny_mono (ht [] s1 (start N vs) H _ I hq) (fun fl s' hs => ?_) fun e s' hs => hs
  have fin : ∀ {σ' : St} {H' : Hp} {v : V} {u : Value}, Inv (cxOf CX P w K mg base N qual scope f cdv A outer s H E) [] σ' H' s' → RelV v u → Q v H' → CE outer P w H s Q u s' :=
    fun {σ' H' v u} J rv q => ⟨v, H', J.os, J.bare, J.base, J.hok, rv, q⟩
  cases fl with
  | ret u =>
    obtain ⟨v, σ', H', J, rv, q⟩ := hs
    exact fin J rv q
  | next =>
    obtain ⟨σ', H', J, q⟩ := hs
    exact fin (v := V.non) (u := Value.none) J rfl q
  | brk =>
    obtain ⟨_, _, _, q⟩ := hs
    exact False.elim q
  | cont =>
    obtain ⟨_, _, _, q⟩ := hs
    exact False.elim q
end L2
namespace L2
open PySem PySem.Spec PyProof.Rows
section
variable {X : Cx} {x : Str} {p pos : Pos} {e : Expr} {es : List Expr} {t : TA} {id T : String} {r : List V → Hp → VK → Prop}
def tCB (r : List V → Hp → VK → Prop) (t : TA) : TE := fun σ H Q => t σ H fun vs H1 => r vs H1 Q
theorem pe_callB (hc : CallR X (.builtin id) r) (hg : Gl X x) (hm : X.mg x = none) (hv : bootBuiltins x = some (.builtin id)) (ha : PA X (e :: es) t) (hn : x ≠ "__name__" := by decide) (hdb : (x == ("__debug__" : Str)) = false := by decide)
    (he : starEach (e :: es) X.env = (false, eval e X.env) :: starEach es X.env := by rfl) (hpl : (backTo pos (starEach es X.env)).any (·.1) = false := by rfl) : PE X (.Call (.Name x p) (e :: es) [] pos) (tCB r t) := by
  intro pins s σ H Q I h
  refine wpAny_Call_Name_kw (ld_blt I hg hm hv ?_ hn hdb)
  exact PyProof.Rows.callWith_builtin1 (thn (ha pos pins s σ H _ I h) fun us s1 ⟨vs, H1, I1, r1, q1⟩ => hc pins s1 σ H1 vs us Q I1 r1 q1) he hpl
theorem pe_callTy (hc : CallR X (.type T) r) (hg : Gl X x) (hm : X.mg x = none) (hv : bootBuiltins x = some (.type T)) (ha : PA X (e :: es) t) (hn : x ≠ "__name__" := by decide) (hdb : (x == ("__debug__" : Str)) = false := by decide)
    (he : starEach (e :: es) X.env = (false, eval e X.env) :: starEach es X.env := by rfl) (hpl : (backTo pos (starEach es X.env)).any (·.1) = false := by rfl) : PE X (.Call (.Name x p) (e :: es) [] pos) (tCB r t) := by
  intro pins s σ H Q I h
  refine wpAny_Call_Name_kw (ld_blt I hg hm hv ?_ hn hdb)
  exact PyProof.Rows.callWith_type1 (thn (ha pos pins s σ H _ I h) fun us s1 ⟨vs, H1, I1, r1, q1⟩ => hc pins s1 σ H1 vs us Q I1 r1 q1) he hpl
end
end L2
namespace HT
open PySem PyProof.Rows
def lexLt : List Int → List Int → Bool
  | [], [] => false
  | [], _ :: _ => true
  | _ :: _, [] => false
  | x :: xs, y :: ys => if x = y then lexLt xs ys else decide (x < y)
section
open PySem.SeqAt
open PySem.AutoSeq1 (wpAny_loadPart')
open PySem.MeetsSeq PySem.MeetsSeq2 PySem.MeetsSeq3
end
section
variable {prog : Program} {w : World} {A : Around} {E : Value → Shared → Prop} {s : Shared}
def sIx (n d : Nat) : Option Int → Nat
  | none => d
  | some v => if v < 0 then (v + (n : Int)).toNat else min v.toNat n
theorem sIx_none (n d : Nat) : sIx n d none = d := rfl
end
end HT
namespace L2
open PySem PySem.Spec PyProof.Rows
abbrev TO := St → Hp → (Option Int → Hp → Prop) → Prop
def PO (X : Cx) (e : Option Expr) (t : TO) : Prop :=
  ∀ (pins : List (Addr × Obj)) (s : Shared) (σ : St) (H : Hp) (Q : Option Int → Hp → Prop), Inv X pins σ H s → t σ H Q →
    wpAny (model X.prog X.w) X.A (evalPart e X.env) (fun u s' => ∃ o H', Inv X pins σ H' s' ∧ IsPart u o ∧ Q o H') X.xe s
def tNoPart : TO := fun _ H Q => Q none H
def tPart (t : TE) : TO := fun σ H Q => t σ H fun x H1 => ∃ i, x = .int i ∧ Q (some i) H1
section
variable {X : Cx} {e : Expr} {te : TE} {lo hi : Option Expr} {tl th : TO} {pos p2 : Pos}
theorem po_none : PO X none tNoPart := by
  intro pins s σ H Q I h
  rw [evalPart_none]
  exact wpAny_pure ⟨none, H, I, .none, h⟩
theorem po_some (h : PE X e te) : PO X (some e) (tPart te) := by
  intro pins s σ H Q I hw
  rw [evalPart_some]
  refine thn (h pins s σ H _ I hw) fun u s1 ⟨x, H1, I1, r1, q1⟩ => ?_
  obtain ⟨i, rfl, q⟩ := q1
  obtain ⟨t, rfl⟩ := r1
  exact ⟨some i, H1, I1, .int i t, q⟩
def SlR (X : Cx) (r : V → Option Int → Option Int → Hp → VK → Prop) : Prop :=
  ∀ (pins : List (Addr × Obj)) (s : Shared) (σ : St) (H : Hp) (x : V) (v vl vu : Value) (lo hi : Option Int) (sl : Addr) (Q : VK), Inv X pins σ H s → RelV x v → s.heap.IsSliceOf sl vl vu .none → IsPart vl lo → IsPart vu hi → r x lo hi H Q →
    ∃ T id, typeLookup (.type T) "__getitem__" = pure (some (.builtin id)) ∧ s.TypeIs v T ∧ wpAny (model X.prog X.w) X.A (getItem v (.ref sl)) (EP X pins σ Q) X.xe s
theorem SlR.or {r r' : V → Option Int → Option Int → Hp → VK → Prop} (h : SlR X r) (h' : SlR X r') : SlR X (fun x lo hi H Q => r x lo hi H Q ∨ r' x lo hi H Q) := by
  intro pins s σ H x v vl vu lo hi sl Q I rx hs pl pu q
  rcases q with q | q
  · exact h pins s σ H x v vl vu lo hi sl Q I rx hs pl pu q
  · exact h' pins s σ H x v vl vu lo hi sl Q I rx hs pl pu q
def tSl (r : V → Option Int → Option Int → Hp → VK → Prop) (te : TE) (tl th : TO) : TE := fun σ H Q => te σ H fun x H1 => tl σ H1 fun l H2 => th σ H2 fun u H3 => r x l u H3 Q
theorem pe_slice {r : V → Option Int → Option Int → Hp → VK → Prop} (hr : SlR X r) (he : PE X e te) (hl : PO X lo tl) (hu : PO X hi th) : PE X (.Subscript e (.Slice lo hi none p2) pos) (tSl r te tl th) := by
  intro pins s σ H Q I h
  refine Subscript_ (thn (he pins s σ H _ I h) fun v s1 ⟨x, H1, I1, r1, q1⟩ => ?_)
  refine wpAny_Slice (thn (hl pins s1 σ H1 _ I1 q1) fun vl s2 ⟨l, H2, I2, pl, q2⟩ => thn (hu pins s2 σ H2 _ I2 q2) fun vu s3 ⟨u, H3, I3, pu, q3⟩ => ?_)
  rw [evalPart_none]
  refine wpAny_pure ?_
  have I4 : Inv X pins σ H3 { s3 with heap := s3.heap.push { cls := .type "slice", data := .fields #[vl, vu, .none] } } := I3.kept (t' := s3.toks) fun b ob q => Heap.get?_push_of_some _ q
  obtain ⟨T, id, hT, ht, hg⟩ := hr pins { s3 with heap := s3.heap.push { cls := .type "slice", data := .fields #[vl, vu, .none] } } σ H3 x v vl vu l u s3.heap.objs.size Q I4 r1 (Heap.IsSliceOf.new ..) pl pu q3
  show wpAny (model X.prog X.w) X.A (subscriptTail e (.Slice lo hi none p2) v (.ref s3.heap.objs.size)) (EP X pins σ Q) X.xe { s3 with heap := s3.heap.push { cls := .type "slice", data := .fields #[vl, vu, .none] } }
  exact tail_any (ops := [.ref s3.heap.objs.size, v]) ht hT hg (by with_unfolding_all rfl)
def cutV (xs : List V) (lo hi : Option Int) : List V := (xs.drop (HT.sIx xs.length 0 lo)).take (HT.sIx xs.length xs.length hi - HT.sIx xs.length 0 lo)
theorem cutV_length (xs : List V) (lo hi : Option Int) : (cutV xs lo hi).length ≤ xs.length := by
  unfold cutV
  rw [List.length_take, List.length_drop]
  omega
def rSlT (K : PySem.W.Frag) : V → Option Int → Option Int → Hp → VK → Prop := fun x lo hi H Q => ∃ a xs, x = .ref a ∧ SqT K H a xs ∧
  ¬ (HT.sIx xs.length 0 lo = 0 ∧ HT.sIx xs.length xs.length hi = xs.length) ∧ ∀ p, H p = none → Q (.ref p) (upd H p (.tup (cutV xs lo hi)))
def rLtT (K : PySem.W.Frag) : R2 := fun x y H Q => ∃ a b ns ms, x = .ref a ∧ y = .ref b ∧ SqT K H a (ns.map V.int) ∧ SqT K H b (ms.map V.int) ∧ Q (.bl (HT.lexLt ns ms)) H
def rCatT (K : PySem.W.Frag) : R2 := fun x y H Q => ∃ a b xs ys, x = .ref a ∧ y = .ref b ∧ SqT K H a xs ∧ SqT K H b ys ∧ xs ≠ [] ∧ xs.length + ys.length ≤ sizeLine ∧
  (ys = [] → Q (.ref a) H) ∧ (ys ≠ [] → ∀ p, H p = none → Q (.ref p) (upd H p (.tup (xs ++ ys))))
end
end L2
namespace L2
open PySem PySem.Spec PyProof.Rows
def ixN (n : Nat) (i : Int) : Option Nat := if 0 ≤ i then (if i < n then some i.toNat else none) else if -(n : Int) ≤ i then some (i + n).toNat else none
def atI {α : Type} (xs : List α) (i : Int) : Option α := (ixN xs.length i).bind fun j => xs[j]?
theorem ixN_seq {n : Nat} {i : Int} {j : Nat} (h : ixN n i = some j) : seqIndex? i n = some j ∧ j < n ∧ -(n : Int) ≤ i ∧ i < n := by
  unfold ixN at h
  by_cases h0 : 0 ≤ i
  · rw [if_pos h0] at h
    by_cases h1 : i < n
    · rw [if_pos h1] at h
      have e : i.toNat = j := Option.some.inj h
      exact ⟨by rw [seqIndex_of h0 h1, e], by omega, by omega, h1⟩
    · rw [if_neg h1] at h; cases h
  · rw [if_neg h0] at h
    by_cases h1 : -(n : Int) ≤ i
    · rw [if_pos h1] at h
      have e : (i + n).toNat = j := Option.some.inj h
      exact ⟨by rw [seqIndex_neg (by omega) h1, e], by omega, h1, by omega⟩
    · rw [if_neg h1] at h; cases h
theorem atI_get {α : Type} {xs : List α} {i : Int} {v : α} (h : atI xs i = some v) : ∃ j, seqIndex? i xs.length = some j ∧ xs[j]? = some v ∧ j < xs.length ∧ -(xs.length : Int) ≤ i ∧ i < xs.length := by
  unfold atI at h
  cases e : ixN xs.length i with
  | none => rw [e] at h; cases h
  | some j =>
    rw [e] at h
    obtain ⟨h1, h2, h3, h4⟩ := ixN_seq e
    exact ⟨j, h1, h, h2, h3, h4⟩
theorem atI_nat {α : Type} {xs : List α} {j : Nat} {v : α} (h : xs[j]? = some v) : atI xs (j : Int) = some v := by
  have hj : j < xs.length := (List.getElem?_eq_some_iff.mp h).1
  have e : ixN xs.length (j : Int) = some j := by
    unfold ixN
    rw [if_pos (by omega), if_pos (by omega)]; simp
  unfold atI; rw [e]; exact h
def PlainIx (b : Expr) : Prop := ∀ o i, subscripted b false o i = operate [o, i] (getItem o i)
def IxR (X : Cx) (r : R2) : Prop :=
  ∀ (value slice : Expr) (pins : List (Addr × Obj)) (s : Shared) (σ : St) (H : Hp) (x y : V) (v u : Value) (Q : VK), Inv X pins σ H s → RelV x v → RelV y u → r x y H Q →
    subscripted slice false v u = operate [v, u] (getItem v u) → wpAny (model X.prog X.w) X.A (subscriptTail value slice v u) (EP X pins σ Q) X.xe s
def MtR (X : Cx) (id : String) (r : V → List V → Hp → VK → Prop) : Prop :=
  ∀ (pins : List (Addr × Obj)) (s : Shared) (σ : St) (H : Hp) (x : V) (xs : List V) (v : Value) (us : List Value) (Q : VK), Inv X pins σ H s → RelV x v → Vals xs us → r x xs H Q →
    wpAny (model X.prog X.w) X.A (call (.builtin id) (v :: us)) (EP X pins σ Q) X.xe s
section
variable {X : Cx} {a b : Expr} {ta tb : TE} {pos : Pos}
theorem IxR.or {r r' : R2} (h : IxR X r) (h' : IxR X r') : IxR X (fun x y H Q => r x y H Q ∨ r' x y H Q) := by
  intro value slice pins s σ H x y v u Q I rx ry q hs
  rcases q with q | q
  · exact h value slice pins s σ H x y v u Q I rx ry q hs
  · exact h' value slice pins s σ H x y v u Q I rx ry q hs
theorem MtR.or {id : String} {r r' : V → List V → Hp → VK → Prop} (h : MtR X id r) (h' : MtR X id r') : MtR X id (fun x xs H Q => r x xs H Q ∨ r' x xs H Q) := by
  intro pins s σ H x xs v us Q I rx rs q
  rcases q with q | q
  · exact h pins s σ H x xs v us Q I rx rs q
  · exact h' pins s σ H x xs v us Q I rx rs q
theorem pe_ix {r : R2} (hr : IxR X r) (ha : PE X a ta) (hb : PE X b tb) (hs : PlainIx b) : PE X (.Subscript a b pos) (tOp r ta tb) := by
  intro pins s σ H Q I h
  exact Subscript_ (binT ha hb I h fun v u s2 x y H2 I2 rx ry q => hr a b pins s2 σ H2 x y v u Q I2 rx ry q (hs _ _))
def rIxL (K : PySem.W.Frag) : R2 := fun x y H Q => ∃ p xs i v, x = .ref p ∧ y = .int i ∧ SqL K H p xs ∧ atI xs i = some v ∧ Q v H
def rIxT (K : PySem.W.Frag) : R2 := fun x y H Q => ∃ p xs i v, x = .ref p ∧ y = .int i ∧ SqT K H p xs ∧ atI xs i = some v ∧ Q v H
def rIxS : R2 := fun x y H Q => ∃ z i c, x = .str z ∧ y = .int i ∧ z.length ≤ sizeLine ∧ atI z.cps.toList i = some c ∧ Q (.str ⟨#[c]⟩) H
theorem ix_list : IxR X (rIxL X.K) := by
  intro value slice pins s σ H x y v u Q I rx ry h hs
  obtain ⟨p, xs, i, z, rfl, rfl, hq, he, q⟩ := h
  cases rx
  obtain ⟨t, rfl⟩ := ry
  obtain ⟨its, r, pl, hz⟩ := I.list hq
  obtain ⟨j, h1, h2, h3, h4, h5⟩ := atI_get he
  obtain ⟨w, ew, rw'⟩ := r.get h2
  have hl := r.length
  have hn := line63
  have fin : EP X pins σ Q w s := ⟨z, H, I, rw', q⟩
  by_cases h0 : 0 ≤ i
  · have hj : i.toNat = j := by
      rw [seqIndex_of h0 h5] at h1
      exact Option.some.inj h1
    exact item_listR pl.isList h0 (by omega) (by rw [hj]; simpa using ew) fin hs
  · have hj : (i + (its.toArray.size : Int)).toNat = j := by
      rw [seqIndex_neg (by omega) h4] at h1
      rw [List.size_toArray, ← hl]
      exact Option.some.inj h1
    exact subscriptTail_builtinR (x := w) pl.isList.typeIs slot_list_getitem.lookup
      (wpAny_getItem_list_neg (Q := fun r s' => r = w ∧ EP X pins σ Q r s') pl.isList (by omega) (by rw [List.size_toArray] <;> omega) (by omega) (by rw [hj]; simpa using ew) ⟨rfl, fin⟩) hs
theorem ix_tup : IxR X (rIxT X.K) := by
  intro value slice pins s σ H x y v u Q I rx ry h hs
  obtain ⟨p, xs, i, z, rfl, rfl, hq, he, q⟩ := h
  cases rx
  obtain ⟨t, rfl⟩ := ry
  obtain ⟨its, r, pl, hz⟩ := I.tuple hq
  obtain ⟨j, h1, h2, h3, h4, h5⟩ := atI_get he
  obtain ⟨w, ew, rw'⟩ := r.get h2
  have hl := r.length
  have hn := line63
  have fin : EP X pins σ Q w s := ⟨z, H, I, rw', q⟩
  exact subscriptTail_builtinR (x := w) pl.typeIs slot_tuple_getitem.lookup
    (getItem_tuple (j := j) (Q := fun r s' => r = w ∧ EP X pins σ Q r s') pl (by omega) (by omega) (by rw [List.size_toArray, ← hl]; exact h1) (by simpa using ew) ⟨rfl, fin⟩) hs
def rIx (K : PySem.W.Frag) : R2 := fun x y H Q => rIxL K x y H Q ∨ rIxT K x y H Q ∨ rIxS x y H Q
theorem Inv.lst {pins : List (Addr × Obj)} {σ : St} {H : Hp} {s : Shared} {p : Addr} {xs : List V} (I : Inv X pins σ H s) (h : H p = some (.lst xs)) :
    ∃ (its : List Value) (n : Nat), Vals xs its ∧ s.heap.get? p = some { cls := .type "list", data := .seq its.toArray n } ∧ xs.length ≤ sizeLine := by
  obtain ⟨z, its, n, r, e⟩ := I.hok p _ h
  exact ⟨its, n, r, e, z⟩
def rSetL : V → V → V → Hp → (Hp → Prop) → Prop := fun o i v H Q => ∃ p xs k j, o = .ref p ∧ i = .int k ∧ H p = some (.lst xs) ∧ ixN xs.length k = some j ∧ Q (upd H p (.lst (xs.set j v)))
theorem slice_bounds (lo hi : Option Int) (n : Nat) : (sliceBounds lo hi none n).1 = ((HT.sIx n 0 lo : Nat) : Int) ∧ (sliceBounds lo hi none n).2.1 = ((HT.sIx n n hi : Nat) : Int) ∧ (sliceBounds lo hi none n).2.2 = 1 := by
  refine ⟨?_, ?_, rfl⟩
  · cases lo with
    | none => simp [sliceBounds, HT.sIx]
    | some i =>
      simp only [sliceBounds, HT.sIx, Option.getD_none, show (1 : Int) > 0 by decide, if_true]
      by_cases h : i < 0
      · simp only [h, if_true] <;> omega
      · simp only [h, if_false] <;> omega
  · cases hi with
    | none => simp [sliceBounds, HT.sIx]
    | some i =>
      simp only [sliceBounds, HT.sIx, Option.getD_none, show (1 : Int) > 0 by decide, if_true]
      by_cases h : i < 0
      · simp only [h, if_true] <;> omega
      · simp only [h, if_false] <;> omega
theorem slicePick_cut (its : List Value) (lo hi : Option Int) : slicePick its.toArray lo hi none = ((its.drop (HT.sIx its.length 0 lo)).take (HT.sIx its.length its.length hi - HT.sIx its.length 0 lo)).toArray := by
  obtain ⟨h1, h2, h3⟩ := slice_bounds lo hi its.toArray.size
  unfold slicePick
  rw [h1, h2, h3]
  simp only [sliceRange_one, pick_run, List.size_toArray] <;> rfl
def rSlL (K : PySem.W.Frag) : V → Option Int → Option Int → Hp → VK → Prop := fun x lo hi H Q => ∃ a xs, x = .ref a ∧ SqL K H a xs ∧ ∀ p, H p = none → Q (.ref p) (upd H p (.lst (cutV xs lo hi)))
theorem sl_list : SlR X (rSlL X.K) := by
  intro pins s σ H x v vl vu lo hi sl Q I rx hs pl pu h
  obtain ⟨a, xs, rfl, hx, q⟩ := h
  cases rx
  obtain ⟨its, r, ht, hz⟩ := I.list hx
  have hlen := r.length
  refine ⟨"list", _, slot_list_getitem.lookup, ht.isList.typeIs, ?_⟩
  refine wpAny_getItem_list_slice ht.isList hs pl pu .none (by simp) ?_ (by rw [List.size_toArray] <;> omega)
  rw [slicePick_cut, ← hlen]
  refine ⟨.ref s.heap.objs.size, _, I.laid (t' := s.toks) (o := .lst (cutV xs lo hi)) (fun b ob q => Heap.get?_push_of_some _ q) (Nat.le_refl _) ?_, rfl, q _ (I.hok.fresh (Nat.le_refl _))⟩
  exact ⟨Nat.le_trans (cutV_length xs lo hi) hz, _, 0, (r.drop (HT.sIx xs.length 0 lo)).take (HT.sIx xs.length xs.length hi - HT.sIx xs.length 0 lo), Heap.get?_push_size _ rfl⟩
def flatV : V → Bool
  | .non => true
  | .bl _ => true
  | .int _ => true
  | .str _ => true
  | _ => false
def eqV : V → V → Bool
  | .non, .non => true
  | .bl a, .bl b => a == b
  | .bl a, .int b => (if a then 1 else 0) == b
  | .int a, .bl b => a == (if b then 1 else 0)
  | .int a, .int b => a == b
  | .str a, .str b => a == b
  | _, _ => false
theorem eqAt_V {A : Around} {s : Shared} {y x : V} {u v : Value} (ry : RelV y u) (rx : RelV x v) (fy : flatV y = true) (fx : flatV x = true) : SeqAt.EqAt A s u v (eqV y x) := by
  cases y with
  | non =>
    cases ry
    cases x with
    | non => cases rx; exact SeqAt.EqAt.same _
    | bl b => cases rx; exact SeqAt.EqAt.none_bool b
    | int b => obtain ⟨t, rfl⟩ := rx; exact SeqAt.EqAt.none_int b t
    | str b => obtain ⟨t, rfl⟩ := rx; exact SeqAt.EqAt.none_str b t
    | _ => exact absurd (show false = true from fx) Bool.false_ne_true
  | bl a =>
    cases ry
    cases x with
    | non => cases rx; exact SeqAt.EqAt.bool_none a
    | bl b => cases rx; exact SeqAt.EqAt.bool_bool a b
    | int b => obtain ⟨t, rfl⟩ := rx; exact SeqAt.EqAt.bool_int a b t
    | str b => obtain ⟨t, rfl⟩ := rx; exact SeqAt.EqAt.bool_str a b t
    | _ => exact absurd (show false = true from fx) Bool.false_ne_true
  | int a =>
    obtain ⟨t', rfl⟩ := ry
    cases x with
    | non => cases rx; exact SeqAt.EqAt.int_none a t'
    | bl b => cases rx; exact SeqAt.EqAt.int_bool a t' b
    | int b => obtain ⟨t, rfl⟩ := rx; exact SeqAt.EqAt.int_int a t' b t
    | str b => obtain ⟨t, rfl⟩ := rx; exact SeqAt.EqAt.int_str a t' b t
    | _ => exact absurd (show false = true from fx) Bool.false_ne_true
  | str a =>
    obtain ⟨t', rfl⟩ := ry
    cases x with
    | non => cases rx; exact SeqAt.EqAt.str_none a t'
    | bl b => cases rx; exact SeqAt.EqAt.str_bool a t' b
    | int b => obtain ⟨t, rfl⟩ := rx; exact SeqAt.EqAt.str_int a t' b t
    | str b => obtain ⟨t, rfl⟩ := rx; exact SeqAt.EqAt.str_str a t' b t
    | _ => exact absurd (show false = true from fx) Bool.false_ne_true
  | _ => exact absurd (show false = true from fy) Bool.false_ne_true
def eqU (x : V) (u : Value) : Bool := match u with
  | .none => eqV .non x
  | .bool b => eqV (.bl b) x
  | .int i _ => eqV (.int i) x
  | .str z _ => eqV (.str z) x
  | _ => false
theorem eqU_of {x y : V} {u : Value} (r : RelV y u) (f : flatV y = true) : eqU x u = eqV y x := by
  cases y with
  | non => cases r; rfl
  | bl b => cases r; rfl
  | int i => obtain ⟨t, rfl⟩ := r; rfl
  | str z => obtain ⟨t, rfl⟩ := r; rfl
  | _ => exact absurd (show false = true from f) Bool.false_ne_true
theorem any_eqU {x : V} : ∀ {xs : List V} {us : List Value}, Vals xs us → xs.all flatV = true → us.any (eqU x) = xs.any fun y => eqV y x
  | _, _, .nil, _ => rfl
  | y :: xs, u :: us, .cons r t, f => by
    rw [List.all_cons, Bool.and_eq_true] at f
    rw [List.any_cons, List.any_cons, eqU_of r f.1, any_eqU t f.2]
theorem mem_eqAt {A : Around} {s : Shared} {x : V} {v : Value} (rx : RelV x v) (fx : flatV x = true) : ∀ {xs : List V} {us : List Value}, Vals xs us → xs.all flatV = true → ∀ u ∈ us, SeqAt.EqAt A s u v (eqU x u)
  | _, _, .nil, _ => fun u hu => by cases hu
  | y :: xs, u :: us, .cons r t, f => fun u' hu => by
    rw [List.all_cons, Bool.and_eq_true] at f
    rcases List.mem_cons.mp hu with rfl | hu
    · rw [eqU_of r f.1]; exact eqAt_V r rx f.1 fx
    · exact mem_eqAt rx fx t f.2 u' hu
def inV (x : V) (xs : List V) : Bool := xs.any fun y => eqV y x
def rIn (K : PySem.W.Frag) (neg : Bool) : R2 := fun x y H Q => ∃ p xs, y = .ref p ∧ (SqL K H p xs ∨ SqT K H p xs) ∧ flatV x = true ∧ xs.all flatV = true ∧ Q (.bl (if neg then !inV x xs else inV x xs)) H
theorem op_in_seq : OpR X (compareOp .In) (rIn X.K false) := by
  intro pins s σ H x y v u Q I rx ry h
  obtain ⟨p, xs, rfl, hq, fx, fs, q⟩ := h
  cases ry
  rcases hq with hq | hq
  · obtain ⟨its, r, pl, hz⟩ := I.list hq
    refine SeqAt.in_listAt (eqU x) pl.isList (fun w hw => mem_eqAt rx fx r fs w (by simpa using hw)) ⟨.bl _, H, I, rfl, ?_⟩
    rw [show its.toArray.any (eqU x) = its.any (eqU x) by simp, any_eqU r fs]
    exact q
  · obtain ⟨its, r, pl, hz⟩ := I.tuple hq
    refine SeqAt.in_tupleAt (eqU x) pl (fun w hw => mem_eqAt rx fx r fs w (by simpa using hw)) ⟨.bl _, H, I, rfl, ?_⟩
    rw [show its.toArray.any (eqU x) = its.any (eqU x) by simp, any_eqU r fs]
    exact q
theorem call_len_seq : CallR X (.builtin "len") (fun xs H Q => ∃ p ys, xs = [.ref p] ∧ (SqL X.K H p ys ∨ SqT X.K H p ys) ∧ Q (.int ys.length) H) := by
  intro pins s σ H xs us Q I r h
  obtain ⟨p, ys, rfl, hq, q⟩ := h
  obtain ⟨u, rfl, rx⟩ := vals1 r
  cases rx
  have hn := line63
  rcases hq with hq | hq
  · obtain ⟨its, r', pl, hz⟩ := I.list hq
    have hlen := r'.length
    exact Calls.call_len_list pl.isList (by simp only [List.size_toArray] <;> omega) ⟨.int ys.length, H, I.tok _, ⟨s.toks + 1, by rw [List.size_toArray, hlen]⟩, q⟩
  · obtain ⟨its, r', pl, hz⟩ := I.tuple hq
    have hlen := r'.length
    exact len_tuple pl (by simp only [List.size_toArray] <;> omega) ⟨.int ys.length, H, I.tok _, ⟨s.toks + 1, by rw [List.size_toArray, hlen]⟩, q⟩
theorem CallR.or {f : Value} {r r' : List V → Hp → VK → Prop} (h : CallR X f r) (h' : CallR X f r') : CallR X f (fun xs H Q => r xs H Q ∨ r' xs H Q) := by
  intro pins s σ H xs us Q I rs q
  rcases q with q | q
  · exact h pins s σ H xs us Q I rs q
  · exact h' pins s σ H xs us Q I rs q
theorem call_list_of : CallR X (.type "list") (fun xs H Q => ∃ p ys, xs = [.ref p] ∧ (SqL X.K H p ys ∨ SqT X.K H p ys) ∧ ∀ l, H l = none → Q (.ref l) (upd H l (.lst ys))) := by
  intro pins s σ H xs us Q I r h
  obtain ⟨p, ys, rfl, hq, q⟩ := h
  obtain ⟨u, rfl, rx⟩ := vals1 r
  cases rx
  have fin : ∀ (its : List Value), Vals ys its → ys.length ≤ sizeLine → ∀ (h' : Heap) (c' : Nat), (∀ b o', s.heap.get? b = some o' → h'.get? b = some o') →
      h'.get? s.heap.objs.size = some { cls := .type "list", dict := none, data := .seq its.toArray c', slots := #[] } → EP X pins σ Q (.ref s.heap.objs.size) { s with heap := h' } := fun its r' hz h' c' kp e =>
    ⟨.ref s.heap.objs.size, _, I.laid (t' := s.toks) kp (Nat.le_refl _) (show ObjOk X.prog X.w _ h' _ (.lst ys) from ⟨hz, its, c', r', e⟩), rfl, q _ (I.hok.fresh (Nat.le_refl _))⟩
  rcases hq with hq | hq
  · obtain ⟨its, r', pl, hz⟩ := I.list hq
    have hlen := r'.length
    obtain ⟨o, ho, hc, n, hd⟩ := pl.isList
    exact call_list_seq p (.inl rfl) ho hc hd (fun h' c' kp e => fin its r' hz h' c' kp e) (by simp only [List.size_toArray] <;> omega)
  · obtain ⟨its, r', pl, hz⟩ := I.tuple hq
    have hlen := r'.length
    obtain ⟨o, ho, hc, n, hd⟩ := pl
    exact call_list_seq p (.inr rfl) ho hc hd (fun h' c' kp e => fin its r' hz h' c' kp e) (by simp only [List.size_toArray] <;> omega)
def tyV (K : PySem.W.Frag) (T : String) (x : V) (H : Hp) : Prop := match x with
  | .str _ => T = "str"
  | .int _ => T = "int"
  | .ref p => (T = "list" ∧ ∃ xs, SqL K H p xs) ∨ (T = "tuple" ∧ ∃ o, K.lookup p = some o ∧ o.cls = .type "tuple" ∧ o.dict = none) ∨
      (T = "dict" ∧ ((∃ kvs, H p = some (.dK kvs)) ∨ ∃ kvs, H p = some (.dT kvs))) ∨ (T = "set" ∧ ∃ S n, H p = some (.set S n))
  | _ => False
theorem tyV_is {pins : List (Addr × Obj)} {σ : St} {H : Hp} {s : Shared} {T : String} {x : V} {v : Value} (I : Inv X pins σ H s) (r : RelV x v) (ty : tyV X.K T x H) :
    s.TypeIs v T ∧ ∀ a, v = .ref a → ∃ ob, s.heap.get? a = some ob ∧ ob.dict = none := by
  cases x with
  | str z =>
    obtain ⟨t, rfl⟩ := r
    cases (show T = "str" from ty)
    exact ⟨typeIs_str s z t, fun _ e => nomatch e⟩
  | int i =>
    obtain ⟨t, rfl⟩ := r
    cases (show T = "int" from ty)
    exact ⟨typeIs_int s i t, fun _ e => nomatch e⟩
  | ref p =>
    cases r
    rcases ty with ⟨rfl, xs, hq⟩ | ⟨rfl, o, hk, hc, hd⟩ | ⟨rfl, hk⟩ | ⟨rfl, S, n, hk⟩
    · obtain ⟨its, _, pl, _⟩ := I.list hq
      refine ⟨pl.isList.typeIs, fun a e => ?_⟩
      cases e
      obtain ⟨o, n, e, c, hd, _⟩ := pl
      exact ⟨o, e, hd⟩
    · refine ⟨⟨o, I.kIn p o hk, hc⟩, fun a e => ?_⟩
      cases e
      exact ⟨o, I.kIn _ o hk, hd⟩
    · have z : ∃ o, s.heap.get? p = some o ∧ o.ExactDict := by
        rcases hk with ⟨kvs, hk⟩ | ⟨kvs, hk⟩
        · obtain ⟨_, _, _, _, o, _, _, e, ex, _⟩ := I.hok p _ hk
          exact ⟨o, e, ex⟩
        · obtain ⟨_, _, _, _, o, _, _, e, ex, _⟩ := I.hok p _ hk
          exact ⟨o, e, ex⟩
      obtain ⟨o, e, ex⟩ := z
      refine ⟨⟨o, e, ex.1⟩, fun a e2 => ?_⟩
      cases e2
      exact ⟨o, e, ex.2.1⟩
    · obtain ⟨o, _, _, _, e, ex, _⟩ := I.hok p _ hk
      refine ⟨⟨o, e, ex.1⟩, fun a e2 => ?_⟩
      cases e2
      exact ⟨o, e, ex.2.1⟩
  | _ => exact False.elim ty
def tBM0 (K : PySem.W.Frag) (T : String) (r : V → List V → Hp → VK → Prop) (to : TE) : TE := fun σ H Q => to σ H fun x H1 => tyV K T x H1 ∧ r x [] H1 Q
def tBM (K : PySem.W.Frag) (T : String) (r : V → List V → Hp → VK → Prop) (to : TE) (t : TA) : TE := fun σ H Q => to σ H fun x H1 => tyV K T x H1 ∧ t σ H1 fun xs H2 => r x xs H2 Q
variable {o e : Expr} {es : List Expr} {to : TE} {t : TA} {name : Str} {apos cpos : Pos} {T id : String} {r : V → List V → Hp → VK → Prop}
theorem pe_bm (pa : PlainAttrs T) (slot : Slot T name id) (hty : typeOf (.builtin id) = pure (.type "method_descriptor")) (hm : MtR X id r) (ho : PE X o to) (ha : PA X (e :: es) t)
    (hbase : attributeBase o name X.env (eval o X.env) = eval o X.env := by rfl)
    (hfew : ((backTo cpos (starEach (e :: es) X.env)).all (fun x => !x.1) && (backToKw cpos (keywordEach [] X.env)).all (fun x => x.1.isSome)
      && decide ((e :: es).length + ([] : List Keyword).length + (if ([] : List Keyword).isEmpty then 0 else 1) < 30)) = true := by rfl)
    (hline : (apos.endLine == cpos.line) = true := by rfl) (hs : starEach (e :: es) X.env = (false, eval e X.env) :: starEach es X.env := by rfl) (hplain : (backTo cpos (starEach es X.env)).any (·.1) = false := by rfl) :
    PE X (.Call (.Attribute o name apos) (e :: es) [] cpos) (tBM X.K T r to t) := by
  intro pins s σ H Q I h
  refine wpAny_Call_method_late hbase hfew hline rfl (thn (ho pins s σ H _ I h) fun v s1 ⟨x, H1, I1, r1, ty, q1⟩ => ?_)
  obtain ⟨h1, h2⟩ := tyV_is I1 r1 ty
  refine ⟨T, id, pa, slot, hty, h1, h2, ?_⟩
  have hA := ha cpos pins s1 σ H1 _ I1 q1
  rw [hs] at hA ⊢
  refine Calls.callWith_builtin (by show (false || (backTo cpos (starEach es X.env)).any (·.1)) = false; rw [hplain] <;> rfl) (Calls.evalArgs_plain ?_)
  exact thn hA fun us s2 ⟨vs, H2, I2, r2, q2⟩ => hm pins s2 σ H2 x vs v us Q I2 r1 r2 q2
/- xs.append(e), list.index on a module's tuple .. are MtR facts of 06m -/
end
end L2
namespace L2
open PySem PySem.Spec PyProof.Rows
def MtM (X : Cx) (id : String) (r : V → List V → Hp → VK → Prop) : Prop :=
  ∀ (pins : List (Addr × Obj)) (s : Shared) (σ : St) (H : Hp) (x : V) (xs : List V) (v : Value) (us : List Value) (Q : VK), Inv X pins σ H s → RelV x v → Vals xs us → r x xs H Q →
    wpAny (model X.prog X.w) X.A (call (.builtin id) (v :: us)) (EP X pins σ Q) X.xe s
theorem Vals.one : ∀ {x : V} {us : List Value}, Vals [x] us → ∃ u, us = [u] ∧ RelV x u
  | _, _, .cons r .nil => ⟨_, rfl, r⟩
theorem Vals.two : ∀ {x y : V} {us : List Value}, Vals [x, y] us → ∃ u v, us = [u, v] ∧ RelV x u ∧ RelV y v
  | _, _, _, .cons r (.cons q .nil) => ⟨_, _, rfl, r, q⟩
theorem Vals.zero : ∀ {us : List Value}, Vals [] us → us = []
  | _, .nil => rfl
theorem Vals.dropLast {xs : List V} {us : List Value} (h : Vals xs us) : Vals xs.dropLast us.dropLast := by
  induction h with
  | nil => exact .nil
  | cons r t ih =>
    cases t with
    | nil => exact .nil
    | cons q t' => exact .cons r ih
theorem Vals.eraseIdx : ∀ {xs : List V} {us : List Value} (i : Nat), Vals xs us → Vals (xs.eraseIdx i) (us.eraseIdx i)
  | _, _, _, .nil => .nil
  | _, _, 0, .cons _ t => t
  | _, _, i + 1, .cons r t => .cons r (Vals.eraseIdx i t)
theorem Vals.reverse {xs : List V} {us : List Value} (h : Vals xs us) : Vals xs.reverse us.reverse := by
  induction h with
  | nil => exact .nil
  | cons r t ih => rw [List.reverse_cons, List.reverse_cons]; exact Vals.append ih (.cons r .nil)
theorem Vals.rep {xs : List V} {us : List Value} (h : Vals xs us) : ∀ k : Nat, Vals (List.replicate k xs).flatten (List.replicate k us).flatten
  | 0 => .nil
  | k + 1 => by
    rw [List.replicate_succ, List.replicate_succ, List.flatten_cons, List.flatten_cons]
    exact Vals.append h (Vals.rep h k)
theorem foldl_rep (its : List Value) : ∀ (k : Nat) (acc : List Value),
    List.foldl (fun x1 x2 => x1 ++ x2) acc.toArray (List.replicate k its.toArray) = (acc ++ (List.replicate k its).flatten).toArray
  | 0, acc => by simp
  | k + 1, acc => by
    have e : acc.toArray ++ its.toArray = (acc ++ its).toArray := by simp
    have e2 : (acc ++ its) ++ (List.replicate k its).flatten = acc ++ (List.replicate (k + 1) its).flatten := by
      rw [List.replicate_succ, List.flatten_cons, List.append_assoc]
    rw [← e2, ← foldl_rep its k (acc ++ its), ← e, List.replicate_succ, List.foldl_cons]
section
variable {X : Cx} {pins : List (Addr × Obj)} {σ : St} {H : Hp} {s : Shared} {l b : Addr} {xs ys zs : List V}
theorem Inv.lset {its its' : List Value} {n : Nat} {f : Array Value → Array Value} {t' : Nat} (I : Inv X pins σ H s) (hH : H l = some (.lst xs))
    (e : s.heap.get? l = some { cls := .type "list", data := .seq its.toArray n }) (hf : f its.toArray = its'.toArray) (hv : Vals ys its') (hz : ys.length ≤ sizeLine) :
    Inv X pins σ (upd H l (.lst ys)) { s with heap := s.heap.update l (Obj.mapSeq f), toks := t' } := by
  have q := PySem.IsL.update e f
  rw [hf] at q
  refine I.write (x := l) (e := l) (by rw [hH]; exact trivial) (.inl rfl) (fun b' u hb hu => (Heap.get?_update_other s.heap (Obj.mapSeq f) (Ne.symm hb)).trans hu) ⟨_, q⟩ ?_
  exact ⟨hz, its', _, hv, q⟩
theorem Inv.lnew {its : List Value} {t' : Nat} (I : Inv X pins σ H s) (hv : Vals ys its) (hz : ys.length ≤ sizeLine) :
    Inv X pins σ (upd H s.heap.objs.size (.lst ys)) { s with heap := s.heap.push { cls := .type "list", data := .seq its.toArray }, toks := t' } :=
  I.laid (fun _ _ q => Heap.get?_push_of_some _ q) (Nat.le_refl _) ⟨hz, its, 0, hv, Heap.get?_push_size _ rfl⟩
theorem Inv.fresh (I : Inv X pins σ H s) : H s.heap.objs.size = none := I.hok.fresh (Nat.le_refl _)
theorem Inv.lstM (I : Inv X pins σ H s) (hH : H l = some (.lst xs)) : xs.length ≤ sizeLine ∧ ∃ (its : List Value) (n : Nat), Vals xs its ∧ xs.length = its.length ∧ s.heap.get? l = some { cls := .type "list", data := .seq its.toArray n } := by
  obtain ⟨z, its, n, r, e⟩ := I.hok l _ hH
  exact ⟨z, its, n, r, r.length, e⟩
theorem notLongL {n : Nat} (h : n ≤ sizeLine) : Builtin.List.listTooLong n = false := by
  unfold Builtin.List.listTooLong
  exact decide_eq_false (by omega)
end
section
variable {X : Cx}
def rAppend : V → List V → Hp → VK → Prop := fun x vs H Q => ∃ l xs y, x = .ref l ∧ vs = [y] ∧ H l = some (.lst xs) ∧ xs.length < sizeLine ∧ Q .non (upd H l (.lst (xs ++ [y])))
theorem mt_append : MtM X "list.append" rAppend := by
  intro pins s σ H x vs v us Q I rx rv h
  obtain ⟨l, xs, y, rfl, rfl, hH, hz, q⟩ := h
  cases rx
  obtain ⟨u, rfl, ru⟩ := rv.one
  obtain ⟨z, its, n, r, hl, e⟩ := I.lstM hH
  refine call_meets F.slot_list_append ⟨_, e, rfl⟩ F.entry_list_append (F.args_list_append_2 _ _) (PySem.list_append l its.toArray n u (by rw [List.size_toArray]; omega)) ⟨e, ?_⟩
  refine ⟨.non, _, I.lset (its' := its ++ [u]) hH e (by simp) (r.append (.cons ru .nil)) ?_, rfl, q⟩
  rw [List.length_append, List.length_singleton]
  omega
def rExtend : V → List V → Hp → VK → Prop := fun x vs H Q => ∃ l b xs zs, x = .ref l ∧ vs = [.ref b] ∧ H l = some (.lst xs) ∧ H b = some (.lst zs) ∧ xs.length + zs.length ≤ sizeLine ∧ Q .non (upd H l (.lst (xs ++ zs)))
theorem mt_extend : MtM X "list.extend" rExtend := by
  intro pins s σ H x vs v us Q I rx rv h
  obtain ⟨l, b, xs, zs, rfl, rfl, hH, hB, hz, q⟩ := h
  cases rx
  obtain ⟨u, rfl, ru⟩ := rv.one
  cases ru
  obtain ⟨z, its, n, r, hl, e⟩ := I.lstM hH
  obtain ⟨z2, its2, n2, r2, hl2, e2⟩ := I.lstM hB
  have hsz : its.toArray.size + its2.toArray.size ≤ sizeLine := by rw [List.size_toArray, List.size_toArray]; omega
  have hlong : ¬ (!its.toArray.isEmpty && Builtin.List.listTooLong (its.toArray.size + its2.toArray.size)) = true := by
    rw [notLongL hsz, Bool.and_false]
    exact Bool.false_ne_true
  refine call_meets F.slot_list_extend ⟨_, e, rfl⟩ F.entry_list_extend (F.args_list_extend_2 _ _)
    (AutoSeq1.list_extend_list_list_0 l its.toArray n b its2.toArray n2 hlong (by rw [List.size_toArray]; omega) (by omega)) ⟨e, e2, ?_⟩
  refine ⟨.non, _, I.lset (its' := its ++ its2) hH e (by simp) (r.append r2) ?_, rfl, q⟩
  rw [List.length_append]
  omega
def rPop : V → List V → Hp → VK → Prop := fun x vs H Q => ∃ l xs y, x = .ref l ∧ vs = [] ∧ H l = some (.lst xs) ∧ xs[xs.length - 1]? = some y ∧ Q y (upd H l (.lst xs.dropLast))
def rPopAt : V → List V → Hp → VK → Prop := fun x vs H Q => ∃ l xs i k y, x = .ref l ∧ vs = [.int i] ∧ H l = some (.lst xs) ∧ -(2 ^ 63) ≤ i ∧ i < 2 ^ 63 ∧ seqIndex? i xs.length = some k ∧ xs[k]? = some y ∧ Q y (upd H l (.lst (xs.eraseIdx k)))
def rReverse : V → List V → Hp → VK → Prop := fun x vs H Q => ∃ l xs, x = .ref l ∧ vs = [] ∧ H l = some (.lst xs) ∧ Q .non (upd H l (.lst xs.reverse))
def rClear : V → List V → Hp → VK → Prop := fun x vs H Q => ∃ l xs, x = .ref l ∧ vs = [] ∧ H l = some (.lst xs) ∧ Q .non (upd H l (.lst []))
def rCat : R2 := fun x y H Q => ∃ l b xs zs, x = .ref l ∧ y = .ref b ∧ H l = some (.lst xs) ∧ H b = some (.lst zs) ∧ xs.length + zs.length ≤ sizeLine ∧ ∀ p, H p = none → Q (.ref p) (upd H p (.lst (xs ++ zs)))
def rRep : R2 := fun x y H Q => ∃ l k xs, x = .ref l ∧ y = .int k ∧ H l = some (.lst xs) ∧ -(2 ^ 63) ≤ k ∧ k < 2 ^ 63 ∧ xs.length * k.toNat ≤ sizeLine ∧
  ∀ p, H p = none → Q (.ref p) (upd H p (.lst (List.replicate k.toNat xs).flatten))
theorem len_rep {α : Type} (xs : List α) (k : Nat) : (List.replicate k xs).flatten.length = k * xs.length := by
  induction k with
  | zero => simp
  | succ k ih => rw [List.replicate_succ, List.flatten_cons, List.length_append, ih, Nat.succ_mul, Nat.add_comm]
theorem op_rep : OpR X (binaryOp .Mult) rRep := by
  intro pins s σ H x y v u Q I rx ry h
  obtain ⟨l, k, xs, rfl, rfl, hH, h1, h2, hz, q⟩ := h
  cases rx
  obtain ⟨t, rfl⟩ := ry
  obtain ⟨z, its, n, r, hl, e⟩ := I.lstM hH
  have hlen : its.toArray.size * k.toNat ≤ sizeLine := by rw [List.size_toArray, ← hl]; exact hz
  have hcap : ¬ its.toArray.size * k.toNat > (2 ^ 63 - 1) / 8 := by
    have : (sizeLine : Nat) ≤ (2 ^ 63 - 1) / 8 := by decide
    omega
  have hfit : ¬ (!Builtin.List.listFitsIndex k) = true := by
    rw [fitsIndex_both h1 h2]
    exact Bool.false_ne_true
  have hlong : ¬ Builtin.List.listTooLong (its.toArray.size * k.toNat) = true := by
    rw [notLongL hlen]
    exact Bool.false_ne_true
  have hnew : List.foldl (fun x1 x2 => x1 ++ x2) #[] (List.replicate (if its.toArray.isEmpty = true then 0 else k.toNat) its.toArray) = (List.replicate k.toNat its).flatten.toArray := by
    have f0 : ∀ m : Nat, List.foldl (fun x1 x2 => x1 ++ x2) #[] (List.replicate m its.toArray) = (List.replicate m its).flatten.toArray := fun m => by
      have := foldl_rep its m []
      rw [List.nil_append] at this
      exact this
    rw [f0]
    cases its with
    | nil => simp
    | cons a r' => rw [if_neg (by simp)]
  refine wpAny_binaryOp_repeat_ref (T := "list") (U := "int") (by decide) ⟨_, e, rfl⟩ (fun s' => typeIs_int s' k t) noFill_list_mul F.fills_int_mul F.slot_int_rmul repeat_list F.slot_int_index.lookup
    (call_meets F.slot_int_rmul (typeIs_int s k t) F.entry_int_rmul (F.args_int_rmul_2 _ _) (int___rmul___int_list k t l its.toArray n)
      ⟨e, rfl, ⟨_, e, rfl⟩, call_meets F.slot_list_mul ⟨_, e, rfl⟩ F.entry_list_mul (F.args_list_mul_2 _ _) (AutoListH.list___mul___list_int_3 l its.toArray n k t hfit hcap hlong) ⟨e, ?_⟩⟩)
  rw [hnew]
  exact ⟨.ref _, _, I.lnew (t' := s.toks) (r.rep k.toNat) (by rw [len_rep, Nat.mul_comm]; exact hz), rfl, q _ I.fresh⟩
end
section
variable {prog : Program} {w : World} {A : Around} {E : Value → Shared → Prop} {s : Shared}
set_option maxRecDepth 100000 in
end
section
variable {X : Cx}
end
end L2
namespace Att
open PySem PySem.W PySem.Calls PyProof.Rows
theorem ints_of_wellAll {P : Params} {h : Heap} : ∀ (ns : List Int) (vs : List Value), WellAll P h vs (ns.map WData.int) → IntsAre vs ns := by
  intro ns
  induction ns with
  | nil =>
    intro vs w
    rw [List.map_nil] at w
    cases w
    exact .nil
  | cons n ns ih =>
    intro vs w
    rw [List.map_cons] at w
    cases w with
    | cons a b =>
      cases a
      exact .cons _ _ (ih _ b)
theorem script_of {l : OpenLaw} {n : Nat} (hn : l.most = some n) {P : Params} {h : Heap} {args : List WData} {vals : List Value}
    (hpre : l.row.toRowW.claim.pre args = true) (hwl : WellAll P h vals args) :
    ∃ a vs ns, vals = [Value.ref a] ∧ args = [WData.list (ns.map WData.int)] ∧ h.get? a = some { cls := .type "list", data := .seq vs.toArray } ∧ IntsAre vs ns ∧ ns.length ≤ n := by
  have hsh : WShape.hasAll [] args [.list .int] = true := (pre_splitW hpre).1
  have hc : l.pre.holds [] { args := args } = true := (pre_splitW hpre).2
  obtain ⟨d, r, rfl, h1, h2⟩ := hasAllW_cons hsh
  obtain rfl := hasAllW_nil h2
  obtain ⟨xs, rfl, h3⟩ := hasW_list h1
  obtain ⟨ns, rfl⟩ := items_int h3
  have hlen : ns.length ≤ n := by
    unfold OpenLaw.pre at hc
    have h4 : (WTm.not (.lt (.lit (.int (n : Int))) (.len (.arg 0)))).holds [] { args := [.list (ns.map .int)] } = true := by
      have h4 := (holds_andW hc).1
      rw [hn] at h4
      exact h4
    have h5 := condW_of h4 (w_not (w_lt w_lit (w_len_list (w_arg rfl))))
    rw [List.length_map] at h5
    refine Nat.le_of_not_lt fun q => ?_
    have q' : (n : Int) < ((ns.length : Nat) : Int) := by omega
    first
      | (rw [decide_eq_true q'] at h5; exact absurd h5 (by decide))
      | (simp at h5; omega)
  cases hwl with
  | cons w1 w2 =>
    cases w2
    cases w1 with
    | list ho hall => exact ⟨_, _, ns, rfl, rfl, ho, ints_of_wellAll ns _ hall, hlen⟩
theorem post_true (l : OpenLaw) (args : List WData) : l.row.toRowW.claim.post args (.bool true) args = true :=
  postW_of (r := l.row.toRowW) (X := (true == true))
    (show WShape.has [] (.bool true) .bool = true by first | rfl | decide | simp [WShape.has, WShape.arms, WShape.armsAll])
    (show (WTm.eq .res (.lit (.bool true))).value [] { args := args, res := some (.bool true), after := args } = some (.bool (true == true)) from w_eq_bool (w_res rfl) w_lit) rfl
theorem attach_call {l : OpenLaw} {n : Nat} {q : Program} {loose : List Str} {XP : (Str → Option Value) → Heap → Prop} {YP : World → Heap → Prop} {d : DefRec}
    (hn : l.most = some n) (hdf : d.params.defaults = [])
    (call : ∀ (w : World) (s₀ s₁ : Shared) (mg mb : Str → Option Value) (fa : Addr) (o : Obj) (pm cd doc : Value) (a : Addr) (vs : List Value) (ns : List Int),
      Ground q loose [] XP w s₀ mg mb s₁.heap → YP w s₁.heap →
      s₁.heap.get? fa = some o → o.data = .func (docDef d.name d.params d.body d.scope pm cd doc) → s₁.heap.CodeRec cd d.name → mg d.name = some (.ref fa) →
      s₁.heap.get? a = some { cls := .type "list", data := .seq vs.toArray } → IntsAre vs ns → ns.length ≤ n → s₁.gens = #[] →
      codeAny (model l.prog w) callerA (.call (.ref fa) ⟨[.ref a], []⟩) (fun r s' => r = .ok (.ret (.bool true)) ∧ OldK s₁.heap s'.heap ∧ s'.os = s₁.os ∧ AllBare s'.gens) s₁) :
    WalkO q loose XP YP l.row.toRowW d [] (fun f vs => PySem.call f vs) := by
  intro w s₀ s₁ mg mb G Y fa o pm cd doc dV kV ho hd hcd hD hmg hg args vals as hpre hlay hrd hwl hlo
  obtain rfl : dV = .none := Dflts.none hD hdf
  obtain rfl : kV = .none := Dflts.noKw hD
  obtain ⟨a, vs, ns, rfl, rfl, hobj, hints, hlen⟩ := script_of hn hpre hwl
  refine enter_call (codeAny_mono (call w s₀ s₁ mg mb fa o pm cd doc a vs ns G Y ho (fd_plain hd) hcd hmg hobj hints hlen hg) fun r s' hq => ?_)
  obtain ⟨rfl, h2, h3, h4⟩ := hq
  exact ⟨.inl ⟨.bool true, .bool true, [], rfl, fun _ => rfl, .bool true, post_true l _, fun _ => ⟨List.Pairwise.nil, fun _ hm => (nomatch hm)⟩⟩, h2, h3, h4⟩
section
variable {prog : Program} {w : World} {A : Around} {E : Value → Shared → Prop} {s : Shared} {K : Frag}
def noObjs (h : Heap) : Heap := { h with objs := #[] }
theorem noObjs_get (h : Heap) (b : Addr) : (noObjs h).get? b = none := by
  cases e : (noObjs h).get? b with
  | none => rfl
  | some o => exact absurd (Heap.lt_size e) (Nat.not_lt_zero _)
def ledger (h : Heap) (L d : Addr) : List (Addr × Obj) := (List.range h.objs.size).filterMap fun a => if a = L ∨ a = d then none else (h.get? a).map fun o => (a, o)
theorem fr_all {h : Heap} {L : Addr} {m : Str → Option Value} (n : h.Ns L m) : Fr (noObjs h) L h m :=
  ⟨n, fun b o e => (by rw [noObjs_get] at e; cases e), Nat.zero_le _⟩
end
end Att
namespace L2
open PySem PySem.Spec PyProof.Rows
theorem vals_ints : ∀ {vs : List Value} {ns : List Int}, IntsAre vs ns → Vals (ns.map V.int) vs
  | _, _, .nil => .nil
  | _, _, .cons n t h => .cons ⟨t, rfl⟩ (vals_ints h)
def Only (H : Hp) : Prop := ∀ b, H b = none ∨ ∃ o xs, H b = some (.frz o (.lst xs))
theorem law_call {P : Program} {w : World} {K : PySem.W.Frag} {mg mb : Str → Option Value} {CX : CXT} {k : Nat} {fa a : Addr} {fd : FuncData} {x : Str} {sp : Sp} {s₁ : Shared} {vs : List Value} {ns : List Int}
    (KX : K.In s₁.heap) (hns : s₁.heap.Ns mainGlobals mg) (hb : s₁.heap.Ns builtinsNs mb) (hbb : ∀ x : Str, x ≠ "__name__" → mb x = bootBuiltins x) (hlim : s₁.heap.NoLimit) (hg : s₁.gens = #[])
    (ha : s₁.heap.get? a = some { cls := .type "list", data := .seq vs.toArray }) (hi : IntsAre vs ns) (hl : ns.length ≤ sizeLine) (hr : Room k callerA)
    (F : ∀ base : Heap, K.In base → base.Ns mainGlobals mg → FnOk P w K mg base CX k fa fd [x] sp) (hbind : ∀ (s : Shared) (u : Value), BindsTo s fd ⟨[u], []⟩ [(x, u)])
    (hsp : ∀ H : Hp, Only H → SqL K H a (ns.map V.int) → sp [.ref a] H (fun v _ => v = .bl true) fun _ _ _ => False)
    (hCX : ∀ H e s', CX [] H s₁ (fun _ _ _ => False) e s' → False) :
    codeAny (model P w) callerA (.call (.ref fa) ⟨[.ref a], []⟩) (fun r s' => r = .ok (.ret (.bool true)) ∧ OldK s₁.heap s'.heap ∧ s'.os = s₁.os ∧ AllBare s'.gens) s₁ := by
  have rv := vals_ints hi
  have lenV := hi.length
  have core : ∀ H : Hp, Only H → SqL K H a (ns.map V.int) → HOk P w H s₁.heap → (∀ b, H b ≠ none → b = a) → (H a ≠ none → K.lookup a = none) →
      codeAny (model P w) callerA (.call (.ref fa) ⟨[.ref a], []⟩) (fun r s' => r = .ok (.ret (.bool true)) ∧ OldK s₁.heap s'.heap ∧ s'.os = s₁.os ∧ AllBare s'.gens) s₁ := by
    intro H hO hS hok hA hK
    have base_of : ∀ {b : Addr} {o : Obj}, s₁.heap.get? b = some o → H b = none → (hidT s₁.heap H).get? b = some o := fun e n => hidT_get e n
    have noA : ∀ {b : Addr} {o : Obj} {es : Array DictEntry} {ep : Nat}, s₁.heap.get? b = some o → o.data = .dict es ep → H b = none := fun {b o es ep} e d => by
      cases q : H b with
      | none => rfl
      | some u =>
        have e' : b = a := hA b (by rw [q]; simp)
        subst e'
        rw [ha] at e; cases e
        have d' : Data.seq vs.toArray _ = Data.dict es ep := d
        cases d'
    have nsK : ∀ {b : Addr} {m : Str → Option Value}, s₁.heap.Ns b m → (hidT s₁.heap H).Ns b m := fun {b m} ⟨o, es, ep, e, d, r⟩ => ⟨o, es, ep, base_of e (noA e d), d, r⟩
    have hKb : K.In (hidT s₁.heap H) := fun b o e => base_of (KX b o e) (by
      cases q : H b with
      | none => rfl
      | some u =>
        have e' : b = a := hA b (by rw [q]; simp)
        subst e'
        rw [hK (by rw [q]; simp)] at e; cases e)
    have hM : Mod K mg (hidT s₁.heap H) := ⟨hKb, nsK hns, ⟨mb, nsK hb, hbb⟩, let ⟨mc, h1, h2⟩ := hlim; ⟨mc, nsK h1, h2⟩⟩
    have e0 : Env0 P w K mg (hidT s₁.heap H) callerA [] s₁ H := ⟨rfl, hM, fun b o e => of_hidT e, Nat.le_of_eq (hidT_size _ _), trivial, fun b hb => absurd (show b ∈ ([] : List Addr) from hb) (by simp), hok, .of_eq hg⟩
    refine codeAny_mono ((F _ hKb (nsK hns)).run callerA [] s₁ H ⟨[.ref a], []⟩ [.ref a] [.ref a] _ _ hr e0 (hbind s₁ (.ref a)) (.cons rfl .nil) (hsp H hO hS)) fun r s' h => ?_
    cases r with
    | error e => exact (hCX H e s' h).elim
    | ok fl =>
      cases fl with
      | next => exact False.elim h
      | brk => exact False.elim h
      | cont => exact False.elim h
      | ret u =>
        obtain ⟨v, H', os, bare, un, hok', r', q⟩ := h
        have q' : v = .bl true := q
        subst q'
        obtain rfl : u = Value.bool true := r'
        refine ⟨rfl, OldK.of_keep fun b o e => ?_, os, bare⟩
        cases q : H b with
        | none => exact un.keep b o e q (by intro z; exact absurd (show b ∈ ([] : List Addr) from z) (by simp)) (by simp)
        | some u =>
          rcases hO b with z | ⟨ob, xs, z⟩
          · rw [q] at z; cases z
          · have z2 := un.frzs b ob _ z
            obtain ⟨e1, _⟩ := hok b _ z
            obtain ⟨e2, _⟩ := hok' b _ z2
            rw [e] at e1; cases e1
            exact e2
  cases hk : K.lookup a with
  | some o =>
    have e := KX a o hk
    rw [ha] at e
    cases e
    refine core (fun _ => none) (fun _ => .inl rfl) (.inr ⟨_, vs.toArray, _, hk, rfl, rfl, rfl, by rw [List.size_toArray, lenV]; exact hl, by simpa using rv⟩) (fun b u z => by have z' : (none : Option HO) = some u := z; cases z') (fun b z => absurd rfl z) fun z => absurd rfl z
  | none =>
    refine core (fun b => if b = a then some (.frz { cls := .type "list", data := .seq vs.toArray } (.lst (ns.map V.int))) else none) (fun b => ?_) (.inl (.inr ⟨{ cls := .type "list", data := .seq vs.toArray }, if_pos rfl⟩)) (fun b u z => ?_) (fun b z => ?_) fun _ => hk
    · by_cases hb : b = a
      · exact .inr ⟨_, _, if_pos hb⟩
      · exact .inl (if_neg hb)
    · by_cases hb : b = a
      · have z' := (if_pos hb).symm.trans z
        cases z'
        subst hb
        exact ⟨ha, by rw [List.length_map]; exact hl, vs, _, rv, ha⟩
      · have z' := (if_neg hb).symm.trans z
        cases z'
    · by_cases hb : b = a
      · exact hb
      · exact absurd (if_neg hb) z
end L2
namespace L2
open PySem PySem.Spec PyProof.Rows
abbrev KOf {K : PySem.W.Frag} {h : Heap} (_ : K.In h) : PySem.W.Frag := K
theorem walk_of {l : PySem.W.OpenLaw} {n k : Nat} {q : Program} {loose : List Str} {XP : (Str → Option Value) → Heap → Prop} {YP : World → Heap → Prop} {d : DefRec} {K : Params → PySem.W.Frag} {CX : World → CXT} {sp : World → Sp} {x : Str}
    (hn : l.most = some n) (hn2 : n ≤ sizeLine) (hdf : d.params.defaults = []) (hr : Room k callerA)
    (hY : ∀ (w : World) (h : Heap), YP w h → (K w.params).In h)
    (F : ∀ (w : World) (mg : Str → Option Value) (fa : Addr) (h : Heap), (K w.params).In h → h.Ns mainGlobals mg → mg d.name = some (.ref fa) →
      ∃ fd : FuncData, (∀ (s : Shared) (u : Value), BindsTo s fd ⟨[u], []⟩ [(x, u)]) ∧
        ∀ base : Heap, (K w.params).In base → base.Ns mainGlobals mg → FnOk l.prog w (K w.params) mg base (CX w) k fa fd [x] (sp w))
    (hsp : ∀ (w : World) (H : Hp) (a : Addr) (ns : List Int), ns.length ≤ n → Only H → SqL (K w.params) H a (ns.map V.int) → sp w [.ref a] H (fun v _ => v = .bl true) fun _ _ _ => False)
    (hCX : ∀ (w : World) (H : Hp) (s : Shared) (e : Value) (s' : Shared), CX w [] H s (fun _ _ _ => False) e s' → False) :
    PySem.W.WalkO q loose XP YP l.row.toRowW d [] (fun f vs => PySem.call f vs) := by
  refine Att.attach_call hn hdf fun w s₀ s₁ mg mb fa o pm cd doc a vs ns G Y ho hd hcd hmg hobj hints hlen hg => ?_
  have KX := hY w _ Y
  obtain ⟨fd, hb, hF⟩ := F w mg fa _ KX G.T.g hmg
  exact law_call KX G.T.g G.T.b G.T.builtins G.T.nolimit hg hobj hints (Nat.le_trans hlen hn2) hr hF hb (fun H hO hS => hsp w H a ns hlen hO hS) fun H e s' => hCX w H s₁ e s'
end L2
/- THE LAST THEOREM (shape; LID, My.* are yours):
   My.Adr: a structure of the addresses that your layer names (classes, functions); My.Txt K t: a structure (Prop) of the equations over K;
   My.txt_mk : {K} {implicit addresses ..} (e1 : nsIn K mainGlobals "law" = some (some (.ref f))) (e2 : K.lookup f = some ⟨oc, od, .func (fnOf "law" "law" params body scope dV kV doc pm an cdv ct), sl⟩) (e3 : codeIn K cdv "law" = true) .. : ∃ t, My.Txt K t
set_option maxRecDepth 100000 in
set_option maxHeartbeats 0 in
(the tactic k_is has no namespace: write k_is) -/
namespace L2
open PySem PySem.Spec PyProof.Rows
def inClass (s : Stmt) (j : Nat) : Stmt := match s with
  | .ClassDef _ _ _ body _ _ _ _ _ _ _ => body.getD j (.Pass ⟨0, 0, 0, 0⟩)
  | _ => .Pass ⟨0, 0, 0, 0⟩
def defArgs (s : Stmt) : Arguments := match s with
  | .FunctionDef _ a _ _ _ _ _ _ _ _ => a
  | _ => { posonlyargs := [], args := [], vararg := none, kwonlyargs := [], kw_defaults := [], kwarg := none, defaults := [] }
def defBody (s : Stmt) : List Stmt := match s with
  | .FunctionDef _ _ b _ _ _ _ _ _ _ => b
  | _ => []
def defScope (s : Stmt) : Scope := match s with
  | .FunctionDef _ _ _ _ _ _ sc _ _ _ => sc
  | _ => { kind := .function, names := [], isGenerator := false, isCoroutine := false }
abbrev CX0 : CXT := fun _ _ _ _ _ _ => False
abbrev E0 : XK := fun _ _ _ => False
theorem pass0 {X : Cx} : Passes CX0 X E0 := fun _ _ _ _ _ _ _ h => h.elim
structure Fun (K : PySem.W.Frag) (x qual : Str) (st : Stmt) (f : Addr) (fd : FuncData) : Prop where
  ex : ∃ (oc : Value) (od : Option Addr) (kV doc pm : Value) (an : Option Addr) (cdv ct : Value) (osl : Array (Option Value)),
    fd = PySem.W.fnOf x qual (defArgs st) (defBody st) (defScope st) .none kV doc pm an cdv ct ∧ K.lookup f = some ⟨oc, od, .func fd, osl⟩ ∧ PySem.W.codeIn K cdv qual = true
  kp : PySem.W.keepIn K (.ref f) = true
section
variable {P : Program} {w : World} {K : PySem.W.Frag} {mg : Str → Option Value} {base : Heap}
theorem Fun.ok {x qual : Str} {st : Stmt} {f : Addr} {fd : FuncData} {N ps : List Str} {k : Nat} {sp : Sp} (F : Fun K x qual st f fd) (S : FnScope N ps (defScope st)) (len : ∀ vs H Q E, sp vs H Q E → vs.length = ps.length)
    (hbody : ∀ (cdv : Value) (A : Around) (outer : List Env) (s : Shared) (H : Hp) (vs : List V) (Q : VK) (E : XK), Room k (A.deeper (envOfC qual (defScope st) s.heap.objs.size f cdv)) → sp vs H Q E →
      ∃ t, PSs (cxOf CX0 P w K mg base N qual (defScope st) f cdv A outer s H E).nox (defBody st) t ∧ t { nx := fun _ H' => Q .non H', rt := Q } (start N vs) H) : FnOk P w K mg base CX0 (k + 1) f fd ps sp := by
  obtain ⟨oc, od, kV, doc, pm, an, cdv, ct, osl, rfl, lk, hcd⟩ := F.ex
  refine fn_of lk hcd S len fun A outer s H vs Q E hr hsp => ?_
  obtain ⟨t, h, q⟩ := hbody cdv A outer s H vs Q E hr hsp
  exact ⟨t, h.nox, q⟩
theorem Fun.binds {x qual : Str} {st : Stmt} {f : Addr} {fd : FuncData} {ps : List Str} (F : Fun K x qual st f fd)
    (h : ∀ (kV doc pm : Value) (an : Option Addr) (cdv ct : Value) (us : List Value), us.length = ps.length → bindArgs (PySem.W.fnOf x qual (defArgs st) (defBody st) (defScope st) .none kV doc pm an cdv ct) ⟨us, []⟩ = pure (ps.zip us)) : Binds K fd ps [] := by
  obtain ⟨oc, od, kV, doc, pm, an, cdv, ct, osl, rfl, lk, hcd⟩ := F.ex
  exact .all (h kV doc pm an cdv ct)
theorem fun_mk {x qual : Str} {st : Stmt} {f : Addr} {oc : Value} {od an : Option Addr} {osl : Array (Option Value)} {kV doc pm cdv ct : Value} (l : K.lookup f = some ⟨oc, od, .func (PySem.W.fnOf x qual (defArgs st) (defBody st) (defScope st) .none kV doc pm an cdv ct), osl⟩)
    (c : PySem.W.codeIn K cdv qual = true) (k : PySem.W.keepIn K (.ref f) = true) : Fun K x qual st f (PySem.W.fnOf x qual (defArgs st) (defBody st) (defScope st) .none kV doc pm an cdv ct) := ⟨⟨oc, od, kV, doc, pm, an, cdv, ct, osl, rfl, l, c⟩, k⟩
end
section
variable {X : Cx}
theorem pv (i : Nat) {x : Str} {pos : Pos} (hN : X.N[i]? = some x := by rfl) (hv : Vis X.env.scope x := by first | exact Or.inl rfl | exact Or.inr (Or.inl rfl) | exact Or.inr (Or.inr rfl)) (hd : (x == ("__debug__" : Str)) = false := by decide)
    (hcd : (x == ("__classdict__" : Str)) = false := by decide) : PE X (.Name x pos) (tVar i) := pe_var hN hv hd hcd
end
theorem iteF {A B : Prop} (h : B) : if false = true then A else B := by
  rw [if_neg Bool.false_ne_true]
  exact h
theorem iteT {A B : Prop} (h : A) : if true = true then A else B := by
  rw [if_pos rfl]
  exact h
theorem ite2 {c A B : Prop} [Decidable c] (h1 : c → A) (h2 : ¬ c → B) : if c then A else B := by
  by_cases h : c
  · rw [if_pos h]
    exact h1 h
  · rw [if_neg h]
    exact h2 h
theorem iteNS {c A B : Prop} [Decidable c] (hc : c) (h : B) : if (!decide c) = true then A else B := by
  rw [decide_eq_true hc]
  exact iteF h
def Same (H H' : Hp) : Prop := ∀ b o, H b = some o → H' b = some o
theorem Same.refl (H : Hp) : Same H H := fun _ _ h => h
theorem Same.trans {H H1 H2 : Hp} (a : Same H H1) (b : Same H1 H2) : Same H H2 := fun c o h => b c o (a c o h)
theorem Same.free {H H' : Hp} (e : Same H H') {l : Addr} (h : H' l = Option.none) : H l = Option.none := by
  cases q : H l with
  | none => rfl
  | some o =>
    rw [e l o q] at h
    cases h
theorem Same.seq {K : PySem.W.Frag} {H H' : Hp} {a : Addr} {xs : List V} (e : Same H H') (h : SqL K H a xs) : SqL K H' a xs := by
  rcases h with (h | ⟨o, h⟩) | h
  · exact .inl (.inl (e _ _ h))
  · exact .inl (.inr ⟨o, e _ _ h⟩)
  · exact .inr h
end L2
namespace L2
open PySem PySem.Spec PyProof.Rows
theorem ObjOk.here {P : Program} {w : World} {H : Hp} {h : Heap} {a : Addr} {o : HO} (x : ObjOk P w H h a o) : ∃ ob, h.get? a = some ob := by
  cases o with
  | lst xs => obtain ⟨_, _, _, _, e⟩ := x; exact ⟨_, e⟩
  | tup xs => obtain ⟨_, _, _, ob, e, _⟩ := x; exact ⟨_, e⟩
  | dK kvs => obtain ⟨_, _, _, _, ob, _, _, e, _⟩ := x; exact ⟨_, e⟩
  | dT kvs => obtain ⟨_, _, _, _, ob, _, _, e, _⟩ := x; exact ⟨_, e⟩
  | set S n => obtain ⟨ob, _, _, _, e, _⟩ := x; exact ⟨_, e⟩
  | ins C dx fs => obtain ⟨_, _, _, e, _⟩ := x; exact ⟨_, e⟩
  | own y => exact x
  | xd fs => obtain ⟨_, ⟨_, _, _, e, _⟩, _⟩ := x; exact ⟨_, e⟩
  | rng lo hi => obtain ⟨_, _, _, e⟩ := x; exact ⟨_, e⟩
  | frz ob u => obtain ⟨e, _⟩ := x; exact ⟨_, e⟩
  | tbl ps => exact ⟨_, x⟩
  | met f y => exact ⟨_, x⟩
  | ext φ => obtain ⟨_, e, _⟩ := x; exact e
theorem mem_frs {env : Env} {l : List Env} {L : Addr} (hf : env.frame = some L) : L ∈ frs (env :: l) := by
  unfold frs; rw [List.filterMap_cons, hf]; exact List.mem_cons_self
theorem mem_frs_tail {env : Env} {l : List Env} {L b : Addr} (hf : env.frame = some L) (hb : b ∈ frs l) : b ∈ frs (env :: l) := by
  unfold frs at *; rw [List.filterMap_cons, hf]; exact List.mem_cons_of_mem _ hb
theorem frames_over {h base base' : Heap} : ∀ {l : List Env}, h.FunFrames base l → (∀ b ∈ frs l, base'.get? b = none) → h.FunFrames base' l
  | [], _, _ => trivial
  | _ :: _, ⟨hk, ⟨L, o, hf, _, ho, hd⟩, hr⟩, k => ⟨hk, ⟨L, o, hf, k L (mem_frs hf), ho, hd⟩, frames_over hr fun b hb => k b (mem_frs_tail hf hb)⟩
structure Fly (base : Heap) (outer : List Env) (H : Hp) (s h : Heap) (e : Addr) (cls : Value) : Prop where
  stays : base.StaysIn h
  frames : h.FunFrames base outer
  baseE : base.get? e = none
  newE : s.get? e = none
  freeE : H e = none
  tr : ∃ oe vs T oT ts, h.get? e = some oe ∧ oe.cls = cls ∧ oe.data = .fields vs ∧ vs[1]? = some (.ref T) ∧ T ≠ e ∧ h.get? T = some oT ∧ oT.data = .fields ts ∧ ts[3]? = some .none ∧ base.get? T = none ∧ s.get? T = none ∧ H T = none
def CXe (P : Program) (w : World) (base : Heap) : CXT := fun outer H s E e s' =>
  ∃ (ea C : Addr) (H' : Hp), e = .ref ea ∧ s'.os = s.os ∧ AllBare s'.gens ∧ Un (frs outer) [] H H' s.heap s'.heap ∧ HOk P w H' s'.heap ∧ Fly base outer H' s.heap s'.heap ea (.ref C) ∧ E (.ref C) none H'
section
variable {X : Cx} {pins : List (Addr × Obj)} {σ : St} {H : Hp} {s : Shared} {e : Addr} {cls : Value}
theorem lv_new {h1 : Heap} {vs : List Value} {Q : Unit → Shared → Prop} {E : Value → Shared → Prop} (I : Inv X pins σ H s) (hst : X.stack = X.env :: X.outer) (hf : X.env.frame = some X.env.locals) (hex : X.ex = [])
    (hx : Heap.MadeExcOf s.heap h1 e cls vs)
    (hQ : ∀ h', Un X.fs [] X.H₀ H X.s₀.heap h' → HOk X.prog X.w H h' → Fly X.base X.outer H X.s₀.heap h' e cls → Q () { s with heap := h' }) :
    wpAny (model X.prog X.w) X.A (leaving X.env (.ref e)) Q E { s with heap := h1 } := by
  have hfs := I.stack
  rw [hst] at hfs
  have hfr : X.A.frames = some (X.env :: X.outer) := by rw [← hst]; exact I.ok.frames
  have fmem : ∀ b ∈ frs (X.env :: X.outer), X.base.get? b = none ∧ ∃ o, s.heap.get? b = some o ∧ ∀ vs, o.data ≠ .fields vs := fun b hb => hfs.mem hb
  have funt : ∀ b ∈ frs (X.env :: X.outer), H b = none := fun b hb => I.stkFree b (by rw [hst]; exact hb)
  have bget : ∀ b o, b ∉ frs (X.env :: X.outer) → s.heap.get? b = some o → (PySem.W.hideAll s.heap (frs (X.env :: X.outer))).get? b = some o := fun b o n q => PySem.W.hideAll_get _ q n
  have bof : ∀ b o, (PySem.W.hideAll s.heap (frs (X.env :: X.outer))).get? b = some o → s.heap.get? b = some o := fun b o q => PySem.W.of_hideAll _ q
  have bno : ∀ b ∈ frs (X.env :: X.outer), (PySem.W.hideAll s.heap (frs (X.env :: X.outer))).get? b = none := fun b hb => PySem.W.hideAll_none _ hb
  have none_of : ∀ b, s.heap.get? b = none → (PySem.W.hideAll s.heap (frs (X.env :: X.outer))).get? b = none := fun b q => by
    cases r : (PySem.W.hideAll s.heap (frs (X.env :: X.outer))).get? b with
    | none => rfl
    | some o => rw [bof b o r] at q; cases q
  obtain ⟨t, he, _, _⟩ := hx.there
  refine wpAny_leaving_first (base := PySem.W.hideAll s.heap (frs (X.env :: X.outer))) hfr (frames_over (hfs.of_keeps fun b o hb _ => ⟨o, hx.keeps b o hb, rfl⟩) bno) hf he (fun b o q => hx.keeps b o (bof b o q)) (none_of e hx.new) rfl rfl fun h' hL => ?_
  obtain ⟨k1, k2, k3, k4⟩ := hL
  have neL : ∀ b o, X.s₀.heap.get? b = some o → b ≠ X.env.locals := fun b o q => Nat.ne_of_lt (Nat.lt_of_lt_of_le (Heap.lt_size q) I.ok.above)
  have inS : ∀ b, b ∈ frs (X.env :: X.outer) → b = X.env.locals ∨ b ∈ X.fs := fun b hb => by
    rcases List.mem_cons.mp (I.stkSub b (by rw [hst]; exact hb)) with z | z
    · exact .inl z
    · exact .inr z
  have keep : ∀ b o, b ∉ frs (X.env :: X.outer) → s.heap.get? b = some o → h'.get? b = some o := fun b o n q => k1 b o (bget b o n q)
  have slot : ∀ b o, b ∈ frs (X.env :: X.outer) → s.heap.get? b = some o → ∃ sl, h'.get? b = some { o with slots := sl } := fun b o hb q => by
    obtain ⟨_, o', q', nf⟩ := fmem b hb
    rw [q] at q'; cases q'
    exact k4 b o (hx.keeps b o q) nf
  have there0 : ∀ b, s.heap.get? b = none → X.s₀.heap.get? b = none := fun b q => by
    cases r : X.s₀.heap.get? b with
    | none => rfl
    | some o =>
      obtain ⟨o', z⟩ := I.base.there b o r (by rw [hex]; simp)
      rw [z] at q; cases q
  have trk : ∀ b o, H b = some o → b ∉ frs (X.env :: X.outer) := fun b o q hb => by rw [funt b hb] at q; cases q
  refine hQ h' ⟨fun b o q n hb _ => ?_, fun b o q n hb _ => ?_, fun b o q n _ => I.base.free b o q n (by rw [hex]; simp), fun b o q _ => ?_, I.base.tups, I.base.frzs, I.base.tbls⟩ (fun b o q => ?_) ⟨fun b o q => ?_, ?_, ?_, there0 e hx.new, ?_, ?_⟩
  · refine keep b o (fun z => ?_) (I.base.keep b o q n hb (by rw [hex]; simp))
    rcases inS b z with z | z
    · exact neL b o q z
    · exact hb z
  · obtain ⟨sl, q1⟩ := I.base.slot b o q n hb (by rw [hex]; simp)
    obtain ⟨sl', q2⟩ := slot b _ (mem_frs_tail hf hb) q1
    exact ⟨sl', q2⟩
  · obtain ⟨o', q1⟩ := I.base.there b o q (by rw [hex]; simp)
    by_cases hb : b ∈ frs (X.env :: X.outer)
    · obtain ⟨sl, q2⟩ := slot b o' hb q1
      exact ⟨_, q2⟩
    · exact ⟨_, keep b o' hb q1⟩
  · exact (I.hok b o q).stay (fun c u hc r => keep c u (by
      rcases hc with rfl | hc
      · exact trk _ _ q
      · exact trk _ _ hc) r) (fun _ z => z) fun _ _ z => z
  · refine keep b o (fun z => ?_) (I.bk b o q)
    rw [(fmem b z).1] at q; cases q
  · obtain ⟨_, _, k2⟩ := frames_over k2 (base' := X.base) fun b hb => (fmem b hb).1
    exact k2
  · cases r : X.base.get? e with
    | none => rfl
    | some o => have := I.bk e o r; rw [hx.new] at this; cases this
  · cases r : H e with
    | none => rfl
    | some o => obtain ⟨ob, z⟩ := (I.hok e o r).here; rw [hx.new] at z; cases z
  · obtain ⟨oe, ws, T, oT, ts, t1, t2, t3, t4, t5, t6, t7, t8, t9⟩ := k3
    have tf : T ∉ frs (X.env :: X.outer) := fun z => by
      obtain ⟨_, o', q', nf⟩ := k2.mem z
      rw [t7] at q'; cases q'
      exact nf ts t8
    have tn : s.heap.get? T = none := by
      cases r : s.heap.get? T with
      | none => rfl
      | some o => rw [bget T o tf r] at t5; cases t5
    refine ⟨oe, ws, T, oT, ts, t1, t2, t3, t4, t6, t7, t8, t9, ?_, there0 T tn, ?_⟩
    · cases r : X.base.get? T with
      | none => rfl
      | some o => have := I.bk T o r; rw [tn] at this; cases this
    · cases r : H T with
      | none => rfl
      | some o => obtain ⟨ob, z⟩ := (I.hok T o r).here; rw [tn] at z; cases z
end
end L2
namespace L2
open PySem PySem.Spec PyProof.Rows
section
variable {X : Cx} {pins : List (Addr × Obj)} {σ : St} {H H' : Hp} {s s' : Shared} {e : Addr} {cls : Value}
theorem lv_on {Q : Unit → Shared → Prop} {E : Value → Shared → Prop} (I : Inv X pins σ H s) (hst : X.stack = X.env :: X.outer) (hf : X.env.frame = some X.env.locals) (hex : X.ex = [])
    (u : Un (frs X.stack) [] H H' s.heap s'.heap) (hok : HOk X.prog X.w H' s'.heap) (fl : Fly X.base X.stack H' s.heap s'.heap e cls)
    (hQ : ∀ h', Un X.fs [] X.H₀ H' X.s₀.heap h' → HOk X.prog X.w H' h' → Fly X.base X.outer H' X.s₀.heap h' e cls → Q () { s' with heap := h' }) :
    wpAny (model X.prog X.w) X.A (leaving X.env (.ref e)) Q E s' := by
  obtain ⟨y1, y2, y3, y4, y5, oe, ws, T, oT, ts, t1, t2, t3, t4, t6, t7, t8, t9, t10, t11, t12⟩ := fl
  rw [hst] at y2 u
  have hfs := I.stack
  rw [hst] at hfs
  have hfr : X.A.frames = some (X.env :: X.outer) := by rw [← hst]; exact I.ok.frames
  have fbase : ∀ b ∈ frs (X.env :: X.outer), X.base.get? b = none := fun b hb => (hfs.mem hb).1
  have fdat : ∀ b ∈ frs (X.env :: X.outer), ∃ o, s'.heap.get? b = some o ∧ ∀ vs, o.data ≠ .fields vs := fun b hb => (y2.mem hb).2
  have funt : ∀ b ∈ frs (X.env :: X.outer), H' b = none := fun b hb => by
    obtain ⟨_, o, ho, _⟩ := hfs.mem hb
    exact u.free b o ho (I.stkFree b (by rw [hst]; exact hb)) (by simp)
  have bget : ∀ b o, b ∉ e :: T :: frs (X.env :: X.outer) → s'.heap.get? b = some o → (PySem.W.hideAll s'.heap (e :: T :: frs (X.env :: X.outer))).get? b = some o := fun b o n q => PySem.W.hideAll_get _ q n
  have bof : ∀ b o, (PySem.W.hideAll s'.heap (e :: T :: frs (X.env :: X.outer))).get? b = some o → s'.heap.get? b = some o := fun b o q => PySem.W.of_hideAll _ q
  have bno : ∀ b ∈ e :: T :: frs (X.env :: X.outer), (PySem.W.hideAll s'.heap (e :: T :: frs (X.env :: X.outer))).get? b = none := fun b hb => PySem.W.hideAll_none _ hb
  refine wpAny_leaving_next (base := PySem.W.hideAll s'.heap (e :: T :: frs (X.env :: X.outer))) (cls := cls) hfr (frames_over y2 fun b hb => bno b (by simp [hb])) hf
    ⟨oe, ws, T, oT, ts, t1, t2, t3, t4, bno T (by simp), t6, t7, t8, t9⟩ (fun b o q => bof b o q) (bno e (by simp)) fun h' hL => ?_
  obtain ⟨k1, k2, k3, k4⟩ := hL
  have neL : ∀ b o, X.s₀.heap.get? b = some o → b ≠ X.env.locals := fun b o q => Nat.ne_of_lt (Nat.lt_of_lt_of_le (Heap.lt_size q) I.ok.above)
  have inS : ∀ b, b ∈ frs (X.env :: X.outer) → b = X.env.locals ∨ b ∈ X.fs := fun b hb => by
    rcases List.mem_cons.mp (I.stkSub b (by rw [hst]; exact hb)) with z | z
    · exact .inl z
    · exact .inr z
  have keep : ∀ b o, b ∉ frs (X.env :: X.outer) → b ≠ e → b ≠ T → s'.heap.get? b = some o → h'.get? b = some o := fun b o n n1 n2 q => k1 b o (bget b o (by simp [n, n1, n2]) q)
  have slot : ∀ b o, b ∈ frs (X.env :: X.outer) → s'.heap.get? b = some o → ∃ sl, h'.get? b = some { o with slots := sl } := fun b o hb q => by
    obtain ⟨o', q', nf⟩ := fdat b hb
    rw [q] at q'; cases q'
    exact k4 b o q nf
  have old : ∀ b o, s.heap.get? b = some o → b ≠ e ∧ b ≠ T := fun b o q => ⟨fun z => (by rw [z, y4] at q; cases q), fun z => (by rw [z, t11] at q; cases q)⟩
  have there0 : ∀ b, s.heap.get? b = none → X.s₀.heap.get? b = none := fun b q => by
    cases r : X.s₀.heap.get? b with
    | none => rfl
    | some o =>
      obtain ⟨o', z⟩ := I.base.there b o r (by rw [hex]; simp)
      rw [z] at q; cases q
  have trk : ∀ b o, H' b = some o → b ∉ frs (X.env :: X.outer) ∧ b ≠ e ∧ b ≠ T := fun b o q => ⟨fun hb => (by rw [funt b hb] at q; cases q), fun z => (by rw [z, y5] at q; cases q), fun z => (by rw [z, t12] at q; cases q)⟩
  refine hQ h' ⟨fun b o q n hb _ => ?_, fun b o q n hb _ => ?_, fun b o q n _ => ?_, fun b o q _ => ?_, fun b xs q => u.tups b xs (I.base.tups b xs q), fun b o x q => u.frzs b o x (I.base.frzs b o x q), fun b ps q => ?_⟩ (fun b o q => ?_) ⟨fun b o q => ?_, ?_, y3, there0 e y4, y5, ?_⟩
  · have q1 := I.base.keep b o q n hb (by rw [hex]; simp)
    have n1 := I.base.free b o q n (by rw [hex]; simp)
    have nf : b ∉ frs (X.env :: X.outer) := fun z => by
      rcases inS b z with z | z
      · exact neL b o q z
      · exact hb z
    exact keep b o nf (old b o q1).1 (old b o q1).2 (u.keep b o q1 n1 nf (by simp))
  · obtain ⟨sl, q1⟩ := I.base.slot b o q n hb (by rw [hex]; simp)
    have n1 := I.base.free b o q n (by rw [hex]; simp)
    obtain ⟨sl2, q2⟩ := u.slot b _ q1 n1 (mem_frs_tail hf hb) (by simp)
    obtain ⟨sl', q3⟩ := slot b _ (mem_frs_tail hf hb) q2
    exact ⟨sl', q3⟩
  · obtain ⟨o', q1⟩ := I.base.there b o q (by rw [hex]; simp)
    exact u.free b o' q1 (I.base.free b o q n (by rw [hex]; simp)) (by simp)
  · obtain ⟨o', q1⟩ := I.base.there b o q (by rw [hex]; simp)
    obtain ⟨o2, q2⟩ := u.there b o' q1 (by simp)
    by_cases hb : b ∈ frs (X.env :: X.outer)
    · obtain ⟨sl, q3⟩ := slot b o2 hb q2
      exact ⟨_, q3⟩
    · exact ⟨_, keep b o2 hb (old b o' q1).1 (old b o' q1).2 q2⟩
  · obtain ⟨m1, e1⟩ := I.base.tbls b ps q
    obtain ⟨m2, e2⟩ := u.tbls b _ e1
    exact ⟨m1 ++ m2, by rw [e2, Array.append_assoc]⟩
  · exact (hok b o q).stay (fun c v hc r => by
      have z : c ∉ frs (X.env :: X.outer) ∧ c ≠ e ∧ c ≠ T := by
        rcases hc with rfl | hc
        · exact trk _ _ q
        · exact trk _ _ hc
      exact keep c v z.1 z.2.1 z.2.2 r) (fun _ z => z) fun _ _ z => z
  · refine keep b o (fun z => by rw [fbase b z] at q; cases q) (fun z => by rw [z, y3] at q; cases q) (fun z => by rw [z, t10] at q; cases q) (y1 b o q)
  · obtain ⟨_, _, k2⟩ := frames_over k2 (base' := X.base) fun b hb => fbase b hb
    exact k2
  · obtain ⟨oe', ws', T', oT', ts', r1, r2, r3, r4, r5, r6, r7, r8, r9⟩ := k3
    by_cases hT : T' = T
    · subst hT
      exact ⟨oe', ws', T', oT', ts', r1, r2, r3, r4, r6, r7, r8, r9, t10, there0 T' t11, t12⟩
    · have tf : T' ∉ frs (X.env :: X.outer) := fun z => by
        obtain ⟨_, o', q', nf⟩ := k2.mem z
        rw [r7] at q'; cases q'
        exact nf ts' r8
      have tn : s'.heap.get? T' = none := by
        cases r : s'.heap.get? T' with
        | none => rfl
        | some o => rw [bget T' o (by simp [tf, r6, hT]) r] at r5; cases r5
      have tn0 : s.heap.get? T' = none := by
        cases r : s.heap.get? T' with
        | none => rfl
        | some o =>
          obtain ⟨o', z⟩ := u.there T' o r (by simp)
          rw [tn] at z; cases z
      refine ⟨oe', ws', T', oT', ts', r1, r2, r3, r4, r6, r7, r8, r9, ?_, there0 T' tn0, ?_⟩
      · cases r : X.base.get? T' with
        | none => rfl
        | some o => have := y1 T' o r; rw [tn] at this; cases this
      · cases r : H' T' with
        | none => rfl
        | some o => obtain ⟨ob, z⟩ := (hok T' o r).here; rw [tn] at z; cases z
end
section
variable {P : Program} {w : World} {K : PySem.W.Frag} {mg : Str → Option Value} {base : Heap} {N : List Str} {qual : Str} {scope : Scope} {f : Addr} {cd : Value} {A : Around} {outer : List Env} {s : Shared} {H : Hp} {E : XK}
theorem passE : Passes (CXe P w base) (cxOf (CXe P w base) P w K mg base N qual scope f cd A outer s H E) E := by
  intro pins σ H1 s1 e s' I h
  obtain ⟨ea, C, H', rfl, os, bare, un, hok, fl, q⟩ := h
  exact lv_on I rfl rfl rfl un hok fl fun h' u' hok' fl' => ⟨ea, C, H', rfl, os.trans I.os, bare, u', hok', fl', q⟩
def Throws (X : Cx) (E : XK) : Prop := ∀ (pins : List (Addr × Obj)) (σ : St) (H : Hp) (s : Shared) (h' : Heap) (e C : Addr) (vs : List Value), Inv X pins σ H s → Heap.MadeExcOf s.heap h' e (.ref C) vs → E (.ref C) none H → X.xe (.ref e) { s with heap := h' }
theorem throwE : Throws (cxOf (CXe P w base) P w K mg base N qual scope f cd A outer s H E) E := by
  intro pins σ H1 s1 h1 e C vs I hx q
  exact lv_new I rfl rfl rfl hx fun h' u' hok' fl' => ⟨e, C, H1, rfl, I.os, I.bare, u', hok', fl', q⟩
end
end L2
namespace My
open PySem PySem.Spec PySem.Calls PySem.W PyProof.Rows PySem.Builtin PySem.Builtin.ObjectAttr PySem.Builtin.Getset_descriptor
def ClsAt (x D : Addr) (h : Heap) : Prop := ∃ o, h.get? x = some o ∧ o.cls = .ref D
theorem clsAt_ty {x D : Addr} (M : Model) (h : Heap) (p : ClsAt x D h) : Looks M h (typeOf (.ref x)) (.ref D) := by
  obtain ⟨o, a, b⟩ := p
  exact b ▸ (Looks.ld a).andThen .now
theorem find_data {K : Frag} {M : Model} {h : Heap} (X : K.In h) {x D : Addr} {name : Str} {g a : Value} (ha : findIn K (.ref D) name = some (some a)) (hn : specialIn K a "__get__" = some (some g)) (htk : takesIn K a = some true) :
    Looks M h (find (.ref x) (.ref D) name) (.bind g a) :=
  (looks_findIn X ha).andThen ((show Looks M h (getOf (some a)) (some g) from looks_specialIn X hn).andThen ((show Looks M h (dataDescriptor? (some a) (some g)) (some (g, a)) from (looks_takesIn X htk).andThen .now).andThen (Looks.tag .now)))
section
variable {prog : Program} {w : World} {A : Around} {E : Value → Shared → Prop} {s : Shared} {K : Frag} {x D : Addr} {R : Result → Shared → Prop}
theorem class_of {tp : Value} (X : K.In s.heap) (p : ClsAt x D s.heap) (hm : mroIn K D (.type "object") = some true) (h : R (.ok (.ret (.ref D))) s) :
    codeAny (model prog w) A (.call (.builtin "getset_descriptor.__get__") ⟨[.builtin "object.__class__", .ref x, tp], []⟩) R s := by
  obtain ⟨h0, g0, d0, t0, o0⟩ := s
  have T0 := clsAt_ty (model prog w) h0 p
  have T1 := looks_mroIn (M := model prog w) X hm
  refine codeAny_call_builtin KF.slot_gs.plain KF.entry_gs (KF.slot_gs.check _ _ _ _ _ _ _ _ KF.type_class (KF.args_gs _ _ _) ?_)
  unfold Builtin.«getset_descriptor.__get__» descrGet
  rw [dga_obj]
  refine wpAny_bind (wpAny_pure ?_)
  unfold descrGetter descrCheckInstance descrNameAndClass isInstance
  simp only [KF.owner_class]
  repeat lk
  refine ⟨Code.quiet_builtin _ (by decide +kernel), codeAny_builtin KF.entry_class ?_⟩
  unfold Builtin.«object.__class__» shownTypeOf
  repeat lk
  exact h
theorem ga_check {M : Model} {Q : Unit → Shared → Prop} {nameV : Value} {h0 : Heap} {g0 : Array GenState} {d0 : Drawn} {t0 : Nat} {o0 : OsState} (T0 : Looks M h0 (typeOf (.ref x)) (.ref D)) (TS : Looks M h0 (isSubtype (.ref D) (.type "BaseException")) true) (hq : Q () ⟨h0, g0, d0, t0, o0⟩) :
    wpAny M A (checkBuiltinCall "BaseException.__getattribute__" ⟨[.ref x, nameV], []⟩) Q E ⟨h0, g0, d0, t0, o0⟩ := by
  have e1 : builtinKind "BaseException.__getattribute__" = some .slot := by decide +kernel
  have e2 : splitId "BaseException.__getattribute__" = some ("BaseException", "__getattribute__") := by decide +kernel
  have e3 := F.args_bexc_ga (.ref x) nameV
  simp only [checkBuiltinCall, e1, e2]
  refine wpAny_bind ?_
  unfold isInstance
  repeat (first | lk | wp_step)
  exact hq
theorem ga_entry {Q : Fin → Shared → Prop} {tk : Tok} {h0 : Heap} {g0 : Array GenState} {d0 : Drawn} {t0 : Nat} {o0 : OsState} (X : K.In h0) (p : ClsAt x D h0) (ha : findIn K (.ref D) "__class__" = some (some (.builtin "object.__class__")))
    (hn : specialIn K (.builtin "object.__class__") "__get__" = some (some (.builtin "getset_descriptor.__get__"))) (htk : takesIn K (.builtin "object.__class__") = some true) (hm : mroIn K D (.type "object") = some true) (hq : Q (.done (.ret (.ref D))) ⟨h0, g0, d0, t0, o0⟩) :
    wpAny (model prog w) A (Builtin.«object.__getattribute__» ⟨[.ref x, .str "__class__" tk], []⟩) Q E ⟨h0, g0, d0, t0, o0⟩ := by
  have T0 := clsAt_ty (model prog w) h0 p
  have T2 := find_data (M := model prog w) X (x := x) ha hn htk
  unfold Builtin.«object.__getattribute__»
  refine wpAny_bind (wpAny_pure ?_)
  repeat (first | (with_reducible refine wpAny_bind (T0.at ?_)) | (with_reducible refine wpAny_bind (T2.at ?_)) | wp_step)
  refine class_of (s := ⟨h0, g0, d0, t0, o0⟩) X p hm ?_
  repeat (any_goals (first | assumption | wp_step))
theorem class_attr {Q : Option Value → Shared → Prop} (hg : findIn K (.ref D) "__getattribute__" = some (some (.builtin "BaseException.__getattribute__"))) (hgg : findIn K (.ref D) "__getattr__" = some none) (hsb : subIn K (.ref D) (.type "BaseException") = some true) (ha : findIn K (.ref D) "__class__" = some (some (.builtin "object.__class__")))
    (hn : specialIn K (.builtin "object.__class__") "__get__" = some (some (.builtin "getset_descriptor.__get__"))) (htk : takesIn K (.builtin "object.__class__") = some true) (hm : mroIn K D (.type "object") = some true)
    (X : K.In s.heap) (p : ClsAt x D s.heap) (h : Q (some (.ref D)) { s with toks := s.toks + 1 }) : wpAny (model prog w) A (getAttr? (.ref x) "__class__") Q E s := by
  obtain ⟨h0, g0, d0, t0, o0⟩ := s
  have T0 := clsAt_ty (model prog w) h0 p
  have T1 := looks_findIn (M := model prog w) X hg
  have T3 := looks_findIn (M := model prog w) X hgg
  have TS := looks_subIn (M := model prog w) X hsb
  have f3 := F.excAttr_ValueError.ga.bind (.ref x)
  have hx2 : (Value.builtin "BaseException.__getattribute__" == Value.builtin "object.__getattribute__") = false := by decide +kernel
  have hx1 : (onTheHeap (Value.ref D) && Value.builtin "BaseException.__getattribute__" == Value.builtin "object.__getattribute__") = false := by rw [hx2]; rfl
  unfold getAttr? getAttrBy? getAttrBy
  refine wpAny_bind (wpAny_mkText (wpAny_bind (wpAny_attempt (wpAny_holding (wpAny_bind (T0.at (wpAny_bind (T1.at ?_))))))))
  dsimp only
  rw [if_neg (by rw [hx1]; exact Bool.false_ne_true)]
  unfold getAttrByItsOwn hookBefore
  rw [if_pos (show onTheHeap (Value.ref D) = true from rfl)]
  refine wpAny_bind (T3.at ?_)
  repeat (any_goals (first | assumption | wp_step | lk))
  refine codeAny_call_builtin F.excAttr_ValueError.ga.plain F.entry_bexc_ga (ga_check T0 TS (ga_entry (K := K) X p ha hn htk hm ?_))
  repeat (any_goals (first | assumption | wp_step))
theorem kitx_exc (hg : findIn K (.ref D) "__getattribute__" = some (some (.builtin "BaseException.__getattribute__"))) (hgg : findIn K (.ref D) "__getattr__" = some none) (hsb : subIn K (.ref D) (.type "BaseException") = some true) (hd : hasDictIn K D = true) (ha : findIn K (.ref D) "__class__" = some (some (.builtin "object.__class__")))
    (hn : specialIn K (.builtin "object.__class__") "__get__" = some (some (.builtin "getset_descriptor.__get__"))) (htk : takesIn K (.builtin "object.__class__") = some true) (hm : mroIn K D (.type "object") = some true) :
    KitX K (.ref x) (.ref D) (ClsAt x D) where
  ty := fun M h _ p => clsAt_ty M h p
  it := fun M h X _ => by
    obtain ⟨c, hc, _⟩ := any_some hd
    unfold clsIn at hc
    split at hc
    · rename_i u1 u2 u3 u4 ho
      intro A' Q' E' s' k q
      unfold isType loadHead; exact wpAny_bind (wpAny_loadPart (k _ _ (X _ _ ho)) (wpAny_pure q))
    · cases hc
  ne := fun h tp dd its n sl X e => by
    obtain ⟨c, hc, _⟩ := any_some hd
    refine Bool.eq_false_iff.mpr fun q => ?_
    obtain rfl : D = tp := Value.ref.inj (beq_iff_eq.mp q)
    unfold clsIn at hc
    split at hc
    · rename_i u1 u2 u3 u4 ho
      have z := (X _ _ ho).symm.trans e; cases z
    · cases hc
  ca := fun X p k => class_attr hg hgg hsb ha hn htk hm X p k
end
end My
namespace L2
open PySem PySem.Spec PyProof.Rows
section
variable {X : Cx} {pins : List (Addr × Obj)} {σ : St} {H H' : Hp} {s s' : Shared} {e C : Addr}
structure Mid (X : Cx) (H' : Hp) (s : Heap) (s' : Heap) (e C : Addr) (B : Heap) (a0 : Value) (T : Addr) (h : Heap) : Prop where
  fly : Heap.FlyingW B (X.env :: X.outer) e (.ref C) a0 h
  slots : s'.UpToSlots h
theorem mid_inv {B h : Heap} {a0 : Value} {T : Addr} (I : Inv X pins σ H s) (hst : X.stack = X.env :: X.outer)
    (u : Un (frs X.stack) [] H H' s.heap s'.heap) (hok : HOk X.prog X.w H' s'.heap) (bare : AllBare s'.gens) (os : s'.os = s.os) (fl : Fly X.base X.stack H' s.heap s'.heap e (.ref C))
    (nT : s.heap.get? T = none) (fT : H' T = none) (hB : ∀ b o, b ∉ e :: T :: frs X.stack → s'.heap.get? b = some o → B.get? b = some o) (hfl : B.StaysIn h) (hsl : s'.heap.UpToSlots h) :
    Inv X pins σ H' { s' with heap := h } := by
  obtain ⟨y1, y2, y3, y4, y5, _⟩ := fl
  have fdat : ∀ b ∈ frs X.stack, ∃ o, s'.heap.get? b = some o ∧ ∀ vs, o.data ≠ .fields vs := fun b hb => (y2.mem hb).2
  have keep : ∀ b o, b ∉ frs X.stack → b ≠ e → b ≠ T → s'.heap.get? b = some o → h.get? b = some o := fun b o n n1 n2 q => hfl b o (hB b o (by simp [n, n1, n2]) q)
  have slot : ∀ b o, b ∈ frs X.stack → s'.heap.get? b = some o → ∃ sl, h.get? b = some { o with slots := sl } := fun b o hb q => by
    obtain ⟨o', q', nf⟩ := fdat b hb
    rw [q] at q'; cases q'
    exact hsl b o q nf
  have old : ∀ b o, s.heap.get? b = some o → b ≠ e ∧ b ≠ T := fun b o q => ⟨fun z => (by rw [z, y4] at q; cases q), fun z => (by rw [z, nT] at q; cases q)⟩
  have funt : ∀ b ∈ frs X.stack, H' b = none := fun b hb => by
    obtain ⟨_, o, ho, _⟩ := I.stack.mem hb
    exact u.free b o ho (I.stkFree b hb) (by simp)
  have trk : ∀ b o, H' b = some o → b ∉ frs X.stack ∧ b ≠ e ∧ b ≠ T := fun b o q => ⟨fun hb => (by rw [funt b hb] at q; cases q), fun z => (by rw [z, y5] at q; cases q), fun z => (by rw [z, fT] at q; cases q)⟩
  refine I.call' (s' := { s' with heap := h }) (ch := []) os ⟨fun b o q n hb _ => ?_, fun b o q n hb _ => ?_, u.free, fun b o q _ => ?_, u.tups, u.frzs, u.tbls⟩ (fun b o q => ?_) bare (fun b z => absurd z (by simp))
  · exact keep b o hb (old b o q).1 (old b o q).2 (u.keep b o q n hb (by simp))
  · obtain ⟨sl, q1⟩ := u.slot b o q n hb (by simp)
    obtain ⟨sl', q2⟩ := slot b _ hb q1
    exact ⟨sl', q2⟩
  · obtain ⟨o', q1⟩ := u.there b o q (by simp)
    by_cases hb : b ∈ frs X.stack
    · obtain ⟨sl, q2⟩ := slot b o' hb q1
      exact ⟨_, q2⟩
    · exact ⟨_, keep b o' hb (old b o q).1 (old b o q).2 q1⟩
  · exact (hok b o q).stay (fun c v hc r => by
      have z : c ∉ frs X.stack ∧ c ≠ e ∧ c ≠ T := by
        rcases hc with rfl | hc
        · exact trk _ _ q
        · exact trk _ _ hc
      exact keep c v z.1 z.2.1 z.2.2 r) (fun _ z => z) fun _ _ z => z
end
end L2
namespace L2
open PySem PySem.Spec PyProof.Rows
section
variable {X : Cx} {pins : List (Addr × Obj)} {σ : St} {H H' : Hp} {s s' : Shared} {e C : Addr}
theorem unbind_ok {M : Model} {A : Around} {E : Value → Shared → Prop} {i : Nat} {n : Str} {pos : Pos} {Q : Unit → Shared → Prop} (I : Inv X pins σ H s) (hN : X.N.Nodup) (hi : X.N[i]? = some n) (hk : X.env.kindOf n = some .local)
    (h : ∀ s', Inv X pins (σ.set i none) H s' → Q () s') : wpAny M A (do bindName X.env n .none; unbindBehindTheSuite X.env n pos) Q E s := by
  obtain ⟨m, hn, hl⟩ := id I.loc
  have hcls : (X.env.scope.kind == .class || (X.env.scope.kind == .module && X.env.locals != X.env.globals)) = false := by rw [I.ok.kind]; rfl
  have hiσ : i < σ.length := by rw [I.len]; exact (List.getElem?_eq_some_iff.mp hi).1
  have below : ∀ b o, X.s₀.heap.get? b = some o → b ≠ X.env.locals := fun b o q => Nat.ne_of_lt (Nat.lt_of_lt_of_le (Heap.lt_size q) I.ok.above)
  refine wpAny_nameGoes_keeps hk hn hcls fun h' v hn' hs => ?_
  refine h _ ⟨I.ok, I.os, I.bare, ⟨fun b o q nb hb hx => ?_, fun b o q nb hb hx => ?_, I.base.free, fun b o q hx => ?_, I.base.tups, I.base.frzs, I.base.tbls⟩, ⟨_, hn', fun j y v' e1 e2 e3 => ?_⟩, fun y c q => ?_, I.free, I.freeC, fun p hp => ?_, fun b ob q => ?_, by simpa using I.len⟩
  · exact (hs.2 b (below b o q)).trans (I.base.keep b o q nb hb hx)
  · obtain ⟨sl, q1⟩ := I.base.slot b o q nb hb hx
    exact ⟨sl, (hs.2 b (below b o q)).trans q1⟩
  · obtain ⟨o', q1⟩ := I.base.there b o q hx
    exact ⟨o', (hs.2 b (below b o q)).trans q1⟩
  · by_cases hj : j = i
    · subst hj
      rw [List.getElem?_set_self hiσ] at e2
      cases e2
    · rw [List.getElem?_set_ne (Ne.symm hj)] at e2
      obtain ⟨u', r', q⟩ := hl j y v' e1 e2 e3
      refine ⟨u', r', ?_⟩
      rcases q with ⟨k, q⟩ | ⟨k, c, q, z⟩
      · refine .inl ⟨k, ?_⟩
        have : y ≠ n := fun z => hj (nodup_ix hN e1 (z ▸ hi))
        simp [this, q]
      · exact .inr ⟨k, c, q, z.sameBut hs (I.cne y c q)⟩
  · obtain ⟨w', z⟩ := I.cell y c q
    exact ⟨w', z.sameBut hs (I.cne y c q)⟩
  · obtain ⟨q, nb, ne, nf, d⟩ := I.pin p hp
    exact ⟨(hs.2 p.1 ne).trans q, nb, ne, nf, d⟩
  · refine (I.hok b ob q).stay (fun c w' hc r => (hs.2 c ?_).trans r) (fun _ z => z) fun _ _ z => z
    rintro rfl
    rcases hc with z | z
    · rw [← z, I.free] at q; cases q
    · rw [I.free] at z; cases z
def Landed (X : Cx) (pins : List (Addr × Obj)) (σ : St) (H' : Hp) (e C : Addr) (s1 : Shared) : Prop :=
  ∃ (H : Hp) (s s' : Shared) (B : Heap) (a0 : Value) (T : Addr), Inv X pins σ H s ∧ Un (frs X.stack) [] H H' s.heap s'.heap ∧ HOk X.prog X.w H' s'.heap ∧ AllBare s'.gens ∧ s'.os = s.os ∧ Fly X.base X.stack H' s.heap s'.heap e (.ref C) ∧
    s.heap.get? T = none ∧ H' T = none ∧ (∀ b o, b ∉ e :: T :: frs X.stack → s'.heap.get? b = some o → B.get? b = some o) ∧ Heap.FlyingW B (X.env :: X.outer) e (.ref C) a0 s1.heap ∧ s'.heap.UpToSlots s1.heap ∧ s1 = { s' with heap := s1.heap }
theorem Landed.inv {s1 : Shared} (l : Landed X pins σ H' e C s1) (hst : X.stack = X.env :: X.outer) : Inv X pins σ H' s1 := by
  obtain ⟨H, s, s', B, a0, T, I, u, hok, bare, os, fl, nT, fT, hB, hfl, hsl, es⟩ := l
  rw [es]
  exact mid_inv (a0 := a0) I hst u hok bare os fl nT fT hB hfl.1 hsl
theorem Landed.cls {s1 : Shared} (l : Landed X pins σ H' e C s1) : My.ClsAt e C s1.heap := by
  obtain ⟨H, s, s', B, a0, T, I, u, hok, bare, os, fl, nT, fT, hB, hfl, hsl, es⟩ := l
  exact hfl.there
theorem Landed.free {s1 : Shared} (l : Landed X pins σ H' e C s1) : H' e = none := by
  obtain ⟨H, s, s', B, a0, T, I, u, hok, bare, os, fl, _⟩ := l
  exact fl.freeE
theorem Landed.again {s1 : Shared} {M : Model} {A : Around} {E : Value → Shared → Prop} {Q : Unit → Shared → Prop} (l : Landed X pins σ H' e C s1) (h : ∀ s2, Landed X pins σ H' e C s2 → Q () s2) : wpAny M A (setFlight (.ref e) none) Q E s1 := by
  obtain ⟨H, s, s', B, a0, T, I, u, hok, bare, os, fl, nT, fT, hB, hfl, hsl, es⟩ := l
  refine lands_againW hfl fun h' f2 u2 => h _ ⟨H, s, s', B, a0, T, I, u, hok, bare, os, fl, nT, fT, hB, f2, hsl.trans u2, ?_⟩
  show ({ s1 with heap := h' } : Shared) = { s' with heap := h' }
  rw [es]
theorem land {E : XK} {ev : Value} {E' : Value → Shared → Prop} {F : Shared → Prop} (I : Inv X pins σ H s) (hst : X.stack = X.env :: X.outer) (hf : X.env.frame = some X.env.locals) (h : CXe X.prog X.w X.base X.stack H s E ev s')
    (k : ∀ e C H' s1, ev = .ref e → E (.ref C) none H' → Landed X pins σ H' e C s1 → F s1) :
    wpAny (model X.prog X.w) X.A (noteFrame ev X.env) (fun _ s2 => wpAny (model X.prog X.w) X.A (setFlight ev none) (fun _ s3 => F s3) E' s2) E' s' := by
  obtain ⟨e, C, H', rfl, os, bare, u, hok, fl, q⟩ := h
  obtain ⟨y1, y2, y3, y4, y5, oe, ws, T, oT, ts, t1, t2, t3, t4, t6, t7, t8, t9, t10, t11, t12⟩ := id fl
  have hfr : X.A.frames = some (X.env :: X.outer) := by rw [← hst]; exact I.ok.frames
  have bno : ∀ b ∈ e :: T :: frs (X.env :: X.outer), (PySem.W.hideAll s'.heap (e :: T :: frs (X.env :: X.outer))).get? b = none := fun b hb => PySem.W.hideAll_none _ hb
  have bof : ∀ b o, (PySem.W.hideAll s'.heap (e :: T :: frs (X.env :: X.outer))).get? b = some o → s'.heap.get? b = some o := fun b o q => PySem.W.of_hideAll _ q
  have sz : 1 < ws.size := (Array.getElem?_eq_some_iff.mp t4).1
  have fw : Heap.FlyingW (PySem.W.hideAll s'.heap (e :: T :: frs (X.env :: X.outer))) (X.env :: X.outer) e (.ref C) ws[0] s'.heap :=
    ⟨fun b o q => bof b o q, bno e (by simp), frames_over (hst ▸ y2) (fun b hb => bno b (by simp [hb])), oe, ws, T, oT, ts, t1, ⟨t2, by simp⟩, t3, t4, bno T (by simp), t6, t7, t8, t9⟩
  refine wpAny_looks_onW hfr hf fw fun h1 k1 u1 => ?_
  refine wpAny_landsW k1 fun h2 k2 u2 => ?_
  refine k e C H' _ rfl q ⟨H, s, s', _, _, T, I, u, hok, bare, os, fl, t11, t12, fun b o hb r => ?_, k2, u1.trans u2, rfl⟩
  rw [hst] at hb
  exact PySem.W.hideAll_get _ r hb
end
end L2
namespace L2
open PySem PySem.Spec PyProof.Rows
abbrev Cx.exc (X : Cx) (e : Addr) : Cx := { X with A := X.A.mark (some (.ref e)), calm := false, xe := fun _ _ => False }
theorem Cx.Ok.exc {X : Cx} (ok : X.Ok) (e : Addr) : (X.exc e).Ok :=
  ⟨ok.mod, ok.kind, ok.glob, ok.blt, ok.above, ok.inj, ok.has, ok.cab, (fun z => nomatch z), ok.frames, ok.stk, ok.exf, ok.bs, ok.bsz, ok.noex, ok.exfs, ok.funs, ok.frf⟩
section
variable {X : Cx} {pins : List (Addr × Obj)} {σ : St} {H H' : Hp} {s s' : Shared} {e C : Addr}
theorem Inv.exc (I : Inv X pins σ H s) (e : Addr) : Inv (X.exc e) pins σ H s := ⟨I.ok.exc e, I.os, I.bare, I.base, I.loc, I.cell, I.free, I.freeC, I.pin, I.hok, I.len⟩
theorem Inv.unexc (I : Inv (X.exc e) pins σ H s) (ok : X.Ok) : Inv X pins σ H s := ⟨ok, I.os, I.bare, I.base, I.loc, I.cell, I.free, I.freeC, I.pin, I.hok, I.len⟩
def excO (e C : Addr) : HO := .ext (My.ClsAt e C)
theorem Landed.held {s1 : Shared} (l : Landed X pins σ H' e C s1) (hst : X.stack = X.env :: X.outer) : Inv X pins σ (upd H' e (excO e C)) s1 := by
  have J := l.inv hst
  have fe := l.free
  obtain ⟨oe, he, hc⟩ := l.cls
  obtain ⟨H, s, s', B, a0, T, I, u, hok, bare, os, fl, _⟩ := l
  have ne : ∀ b o, s.heap.get? b = some o → b ≠ e := fun b o q z => by rw [z, fl.newE] at q; cases q
  have ne0 : ∀ b o, X.s₀.heap.get? b = some o → b ∉ X.ex → b ≠ e := fun b o q hx => by
    obtain ⟨o', q1⟩ := I.base.there b o q hx
    exact ne b o' q1
  have neH : ∀ b o, H' b = some o → b ≠ e := fun b o q z => by rw [z, fe] at q; cases q
  refine ⟨J.ok, J.os, J.bare, ⟨J.base.keep, J.base.slot, fun b o q n hx => ?_, J.base.there, fun b xs q => ?_, fun b o x q => ?_, fun b ps q => ?_⟩, J.loc, J.cell, ?_, fun x c q => ?_, fun p hp => ?_, fun b o q => ?_, J.len⟩
  · rw [upd_ne (ne0 b o q hx)]; exact J.base.free b o q n hx
  · have z := J.base.tups b xs q
    rw [upd_ne (neH _ _ z)]; exact z
  · have z := J.base.frzs b o x q
    rw [upd_ne (neH _ _ z)]; exact z
  · obtain ⟨m, z⟩ := J.base.tbls b ps q
    exact ⟨m, by rw [upd_ne (neH _ _ z)]; exact z⟩
  · obtain ⟨m, ⟨o, _, _, ho, _⟩, _⟩ := I.loc
    rw [upd_ne (ne _ o ho)]; exact J.free
  · obtain ⟨v, o, ho, _⟩ := I.cell x c q
    rw [upd_ne (ne _ o ho)]; exact J.freeC x c q
  · obtain ⟨q1, q2, q3, q4, q5⟩ := J.pin p hp
    obtain ⟨r1, _⟩ := I.pin p hp
    exact ⟨q1, by rw [upd_ne (ne _ _ r1)]; exact q2, q3, q4, q5⟩
  · by_cases hb : b = e
    · subst hb
      rw [upd_same] at q; cases q
      refine ⟨⟨oe, he, hc⟩, ⟨oe, he⟩, fun h1 h2 p k => ?_⟩
      obtain ⟨o1, p1, p2⟩ := p
      exact ⟨o1, k o1 p1, p2⟩
    · rw [upd_ne hb] at q
      exact (J.hok b o q).stay (fun c v _ r => r) (fun c r => by rw [upd_ne (neH _ _ r)]; exact r) fun c xs r => by rw [upd_ne (neH _ _ r)]; exact r
def PH (X : Cx) (hs : List ExceptHandler) (th : Addr → Addr → TS) : Prop :=
  ∀ (pins : List (Addr × Obj)) (s1 : Shared) (σ : St) (H' : Hp) (e C : Addr) (D : Ends), Landed X pins σ H' e C s1 → th e C D σ H' → wpAny (model X.prog X.w) X.A (handleBy (.ref e) X.env hs) (SP X pins D) X.xe s1
theorem ph_nil : PH X [] (fun _ _ _ _ _ => False) := fun _ _ _ _ _ _ _ _ h => h.elim
def hAs (K : PySem.W.Frag) (B : Addr) (i : Nat) (t : Addr → TS) (tr : Addr → Addr → TS) : Addr → Addr → TS := fun e C D σ H' => ∃ b, PySem.W.exmOne K (.ref C) (.ref B) = some b ∧
  if b = true then t e { nx := fun σ' H2 => D.nx (σ'.set i none) H2, rt := D.rt, bk := fun σ' H2 => D.bk (σ'.set i none) H2, ct := fun σ' H2 => D.ct (σ'.set i none) H2 } (σ.set i (some (.ref e))) (upd H' e (excO e C)) else tr e C D σ H'
theorem ph_as {x n : Str} {B : Addr} {i : Nat} {np pos : Pos} {b₀ : Stmt} {suite : List Stmt} {rest : List ExceptHandler} {t : Addr → TS} {tr : Addr → Addr → TS} (hst : X.stack = X.env :: X.outer) (hg : Gl X x) (hm : X.mg x = some (.ref B)) (hN : X.N.Nodup) (hi : X.N[i]? = some n)
    (hk : X.env.kindOf n = some .local) (hl : X.env.scope.names.lookup n = some .local) (hs : ∀ e, PSs (X.exc e) (b₀ :: suite) (t e)) (hr : PH X rest tr) (hd : (x == ("__debug__" : Str)) = false := by decide) :
    PH X (.ExceptHandler (some (.Name x np)) (some n) (b₀ :: suite) pos :: rest) (hAs X.K B i t tr) := by
  intro pins s1 σ H' e C D l h
  obtain ⟨b, hx, h⟩ := h
  have J := l.inv hst
  refine wpAny_handleBy_cons (codeAny_handlers_test (ld_glob (J.exc e) hg hm ?_ hd)) (fun z => nomatch z)
  refine PySem.W.exm_one J.kIn (My.clsAt_ty _ _ l.cls) hx _ _ _ _ (fun _ _ z => z) ?_
  cases b with
  | false => exact hr pins s1 σ H' e C D l (by simpa using h)
  | true =>
    rw [if_pos rfl] at h
    refine codeAny_handlers_suite_as (l.again fun s2 l2 => ?_)
    refine store_ok (l2.held hst) hN hi (.inl hl) (v := .ref e) rfl (fun s3 I3 => ?_) (.inr hl)
    refine wpAny_mono (hs e pins s3 _ _ _ (I3.exc e) h) (fun f s4 q => ?_) fun _ _ z => z.elim
    cases f with
    | next =>
      obtain ⟨σ', H2, I4, q⟩ := q
      exact unbind_ok (I4.unexc J.ok) hN hi hk fun s5 I5 => ⟨_, _, I5, q⟩
    | brk =>
      obtain ⟨σ', H2, I4, q⟩ := q
      exact unbind_ok (I4.unexc J.ok) hN hi hk fun s5 I5 => ⟨_, _, I5, q⟩
    | cont =>
      obtain ⟨σ', H2, I4, q⟩ := q
      exact unbind_ok (I4.unexc J.ok) hN hi hk fun s5 I5 => ⟨_, _, I5, q⟩
    | ret u =>
      obtain ⟨v, σ', H2, I4, r, q⟩ := q
      exact unbind_ok (I4.unexc J.ok) hN hi hk fun s5 I5 => ⟨v, _, _, I5, r, q⟩
def hNo (K : PySem.W.Frag) (B : Addr) (t : Addr → TS) (tr : Addr → Addr → TS) : Addr → Addr → TS := fun e C D σ H' => ∃ b, PySem.W.exmOne K (.ref C) (.ref B) = some b ∧
  if b = true then t e D σ (upd H' e (excO e C)) else tr e C D σ H'
theorem ph_no {x : Str} {B : Addr} {np pos : Pos} {b₀ : Stmt} {suite : List Stmt} {rest : List ExceptHandler} {t : Addr → TS} {tr : Addr → Addr → TS} (hst : X.stack = X.env :: X.outer) (hg : Gl X x) (hm : X.mg x = some (.ref B))
    (hs : ∀ e, PSs (X.exc e) (b₀ :: suite) (t e)) (hr : PH X rest tr) (hd : (x == ("__debug__" : Str)) = false := by decide) :
    PH X (.ExceptHandler (some (.Name x np)) none (b₀ :: suite) pos :: rest) (hNo X.K B t tr) := by
  intro pins s1 σ H' e C D l h
  obtain ⟨b, hx, h⟩ := h
  have J := l.inv hst
  refine wpAny_handleBy_cons (codeAny_handlers_test (ld_glob (J.exc e) hg hm ?_ hd)) (fun z => nomatch z)
  refine PySem.W.exm_one J.kIn (My.clsAt_ty _ _ l.cls) hx _ _ _ _ (fun _ _ z => z) ?_
  cases b with
  | false => exact hr pins s1 σ H' e C D l (by simpa using h)
  | true =>
    rw [if_pos rfl] at h
    refine codeAny_handlers_suite (l.again fun s2 l2 => ?_)
    have I2 := (l2.held hst).exc e
    refine wpAny_mono (hs e pins s2 _ _ _ I2 h) (fun f s4 q => ?_) fun _ _ z => z.elim
    cases f with
    | next => obtain ⟨σ', H2, I4, q⟩ := q; exact ⟨_, _, I4.unexc J.ok, q⟩
    | brk => obtain ⟨σ', H2, I4, q⟩ := q; exact ⟨_, _, I4.unexc J.ok, q⟩
    | cont => obtain ⟨σ', H2, I4, q⟩ := q; exact ⟨_, _, I4.unexc J.ok, q⟩
    | ret u => obtain ⟨v, σ', H2, I4, r, q⟩ := q; exact ⟨v, _, _, I4.unexc J.ok, r, q⟩
def caughtBy (X : Cx) (pins : List (Addr × Obj)) (R : Addr → St → Hp → Prop) : Value → Shared → Prop := fun ev s' =>
  ∃ (σ : St) (H : Hp) (s : Shared) (E : XK), Inv X pins σ H s ∧ CXe X.prog X.w X.base X.stack H s E ev s' ∧ ∀ C H', E (.ref C) none H' → R C σ H'
end
end L2
namespace L2
open PySem PySem.Spec PyProof.Rows
def trX (X : Cx) (pins : List (Addr × Obj)) (σ₀ : St) (R : Addr → Hp → Prop) : Value → Shared → Prop := fun ev s' =>
  ∃ (H : Hp) (s : Shared) (E : XK), Inv X pins σ₀ H s ∧ CXe X.prog X.w X.base X.stack H s E ev s' ∧ ∀ C H', E (.ref C) none H' → R C H'
abbrev Cx.tr (X : Cx) (pins : List (Addr × Obj)) (σ₀ : St) (R : Addr → Hp → Prop) : Cx := { X with pn := X.pn ++ pins, xe := trX X pins σ₀ R }
def XE (R : Addr → Hp → Prop) : XK := fun c _ H' => ∃ C, c = .ref C ∧ R C H'
section
variable {X : Cx} {pins : List (Addr × Obj)} {σ σ₀ : St} {H H' : Hp} {s s' : Shared} {R : Addr → Hp → Prop}
theorem Cx.Ok.tr (ok : X.Ok) : (X.tr pins σ₀ R).Ok :=
  ⟨ok.mod, ok.kind, ok.glob, ok.blt, ok.above, ok.inj, ok.has, ok.cab, ok.hd, ok.frames, ok.stk, ok.exf, ok.bs, ok.bsz, ok.noex, ok.exfs, ok.funs, ok.frf⟩
theorem Inv.tr (I : Inv X pins σ H s) : Inv (X.tr pins σ₀ R) [] σ H s :=
  ⟨I.ok.tr, I.os, I.bare, I.base, I.loc, I.cell, I.free, I.freeC, fun p hp => I.pin p (by simpa using hp), I.hok, I.len⟩
theorem Inv.untr {ps : List (Addr × Obj)} (I : Inv (X.tr pins σ₀ R) ps σ H s) (ok : X.Ok) : Inv X pins σ H s :=
  ⟨ok, I.os, I.bare, I.base, I.loc, I.cell, I.free, I.freeC, fun p hp => I.pin p (List.mem_append_left _ hp), I.hok, I.len⟩
def PS1 (X : Cx) (σ₀ : St) (st : Stmt) (t : TS) : Prop :=
  ∀ (pins : List (Addr × Obj)) (s : Shared) (H : Hp) (D : Ends), Inv X pins σ₀ H s → t D σ₀ H → wpAny (model X.prog X.w) X.A (exec st X.env) (SP X pins D) X.xe s
def PE1 (X : Cx) (σ₀ : St) (e : Expr) (t : TE) : Prop :=
  ∀ (pins : List (Addr × Obj)) (s : Shared) (H : Hp) (Q : VK), Inv X pins σ₀ H s → t σ₀ H Q → wpAny (model X.prog X.w) X.A (eval e X.env) (EP X pins σ₀ Q) X.xe s
def Passes1 (CX : CXT) (X : Cx) (σ₀ : St) (E : XK) : Prop := ∀ (pins : List (Addr × Obj)) (H : Hp) (s : Shared) (e : Value) (s' : Shared), Inv X pins σ₀ H s → CX X.stack H s E e s' → X.xe e s'
theorem Passes.one {CX : CXT} {E : XK} (h : Passes CX X E) : Passes1 CX X σ₀ E := fun pins H s e s' I q => h pins σ₀ H s e s' I q
theorem pass_tr (ok : X.Ok) : Passes1 (CXe X.prog X.w X.base) (X.tr pins σ₀ R) σ₀ (XE R) := fun ps H s e s' I q => ⟨H, s, XE R, I.untr ok, q, fun C H' ⟨C', z, r⟩ => by cases z; exact r⟩
theorem ps1_set {i : Nat} {x : Str} {e : Expr} {te : TE} {pos pos' : Pos} (hN : X.N.Nodup) (hi : X.N[i]? = some x) (hx : Loc X.env.scope x) (he : PE1 X σ₀ e te) (hs : swapsWith e (some (.Name x pos')) pos.line X.env = pure false := by rfl)
    (hf : X.fn x = true ∨ X.env.scope.names.lookup x = some .local := by first | exact .inl rfl | exact .inr rfl | assumption) : PS1 X σ₀ (.Assign [.Name x pos'] e pos) (tAsg te (gName i)) := by
  intro pins s H D I h
  refine wpAny_Assign_Name (thn (he pins s H _ I h) fun v s1 ⟨y, H1, I1, r1, q1⟩ => ?_) hs
  exact store_ok I1 hN hi hx r1 (fun s2 I2 => ⟨_, H1, I2, q1⟩) hf
theorem run_fn1 {CX : CXT} {k : Nat} {f : Addr} {fd : FuncData} {ps : List Str} {sp : Sp} {dvs : List V} {ds : List Value} {E : XK} {Q : VK} {us : List Value} {vs : List V} (F : FnOk X.prog X.w X.K X.mg X.base CX k f fd ps sp) (hr : Room k X.A) (hb : Binds X.K fd ps ds) (hd : Vals dvs ds) (hx : Passes1 CX X σ₀ E)
    (I : Inv X pins σ₀ H s) (r : Vals vs us) (h : sp (vs ++ dvs) H Q E) : wpAny (model X.prog X.w) X.A (call (.ref f) us) (EP X pins σ₀ Q) X.xe s := by
  have r2 : Vals (vs ++ dvs) (us ++ ds) := r.append hd
  have hl : (us ++ ds).length = ps.length := by rw [← r2.length]; exact F.len _ _ _ _ h
  refine wpAny_call (codeAny_mono (F.run X.A X.stack s H ⟨us, []⟩ (us ++ ds) (vs ++ dvs) Q E hr I.env0 (hb s us I.kIn hl) r2 h) fun r s' hq => ?_)
  cases r with
  | error e => exact hx pins H s e s' I hq
  | ok fl =>
    cases fl with
    | ret u => exact I.after hq
    | next => exact False.elim hq
    | brk => exact False.elim hq
    | cont => exact False.elim hq
structure Disp (P : Program) (w : World) (K : PySem.W.Frag) (mg : Str → Option Value) (base : Heap) (CX : CXT) (k : Nat) (m : Str) (ps : List Str) (sp : Sp) (C : Addr) : Prop where
  cl : Cls K C
  to : ∃ (f : Addr) (fd : FuncData), Meth K C m f ∧ FnOk P w K mg base CX k f fd ps sp ∧ Binds K fd ps []
def tMethD (Ds : Addr → Prop) (m : Str) (sp : Sp) (E : XK) (ta : TE) (t : TA) : TE := fun σ H Q => ta σ H fun x H1 => ∃ a C dx fs, x = .ref a ∧ H1 a = some (.ins C dx fs) ∧ Ds C ∧ fs.lookup m = none ∧ t σ H1 fun vs H2 => sp (x :: vs) H2 Q E
theorem PE1.all {e : Expr} {t : TE} (h : ∀ σ₀, PE1 X σ₀ e t) : PE X e t := fun pins s σ H Q I q => h σ pins s H Q I q
def tTry (t : (Addr → Hp → Prop) → TS) (th : Addr → Addr → TS) : TS := fun D σ H => ∃ R : Addr → Hp → Prop, t R D σ H ∧ ∀ e C H', H' e = none → R C H' → th e C D σ H'
theorem ps_try {st : Stmt} {h₀ : ExceptHandler} {hs : List ExceptHandler} {pos : Pos} {t : (Addr → Hp → Prop) → TS} {th : Addr → Addr → TS} (hst : X.stack = X.env :: X.outer) (hf : X.env.frame = some X.env.locals)
    (hb : ∀ pins σ₀ R, X.Ok → PS1 (X.tr pins σ₀ R) σ₀ st (t R)) (hh : PH X (h₀ :: hs) th) : PS X (.Try [st] (h₀ :: hs) [] [] pos) (tTry t th) := by
  intro pins s σ H D I h
  obtain ⟨R, h, k⟩ := h
  refine wpAny_Try_except (wpAny_execs_cons (wpAny_mono (hb pins σ R I.ok [] s H D I.tr h) (fun f s1 q => ?_) fun ev s1 q => ?_))
  · cases f with
    | next =>
      obtain ⟨σ', H2, I4, q⟩ := q
      exact wpAny_execs_nil (wpAny_execs_nil ⟨_, _, I4.untr I.ok, q⟩)
    | brk => obtain ⟨σ', H2, I4, q⟩ := q; exact ⟨_, _, I4.untr I.ok, q⟩
    | cont => obtain ⟨σ', H2, I4, q⟩ := q; exact ⟨_, _, I4.untr I.ok, q⟩
    | ret u => obtain ⟨v, σ', H2, I4, r, q⟩ := q; exact ⟨v, _, _, I4.untr I.ok, r, q⟩
  · obtain ⟨H1, s0, E, I1, c, z⟩ := q
    exact land I1 hst hf c fun e C H' s2 ee q l => (by subst ee; exact hh pins s2 σ H' e C D l (k e C H' l.free (z C H' q)))
theorem ps_raise {x : Str} {C : Addr} {bm : List Value} {B newId initId : String} {np cpos pos : Pos} {e₀ : Expr} {rest : List Expr} {ta : TA} {E : XK} (O : OwnCls x C bm newId X.mg X.base) (FB : ExcBaseFacts B newId initId bm) (hc : X.calm = true) (hg : Gl X x) (ht : Throws X E) (ha : PA X (e₀ :: rest) ta)
    (he : starEach (e₀ :: rest) X.env = (false, eval e₀ X.env) :: starEach rest X.env := by rfl) (hplain : (backTo cpos (starEach rest X.env)).any (·.1) = false := by rfl) (hd : (x == ("__debug__" : Str)) = false := by decide) :
    PS X (.Raise (some (.Call (.Name x np) (e₀ :: rest) [] cpos)) none pos) (fun _ σ H => ta σ H fun vs H1 => vs.length ≤ sizeLine ∧ E (.ref C) none H1) := by
  intro pins s σ H D I h
  obtain ⟨tl, N, nm, q, bs, hdct, sn, sub, ab, col, dd, k0, k1, k2, k3, k5, mN, hC, hN, hni, T⟩ := O.obj
  refine wpAny_Raise_call_subT (C := C) (nm := nm) (q := q) (N := N) (bs := bs) (bm := tl) (hdct := hdct) (sn := sn) (sub := sub) (ab := ab) (col := col) (dd := dd) (k0 := k0) (k1 := k1) (k2 := k2) (k3 := k3) (k5 := k5)
    FB (mN := mN) (T.hasType FB.hasBase) (I.ok.hd hc) (by rw [he]; show (false || (backTo cpos (starEach rest X.env)).any (·.1)) = false; rw [hplain]; rfl) hni (ld_glob I hg O.bound ⟨rfl, ?_⟩ hd)
  have h1 := ha cpos pins s σ H _ I h
  rw [he] at h1 ⊢
  refine Calls.evalArgs_plain (wpAny_mono h1 (fun vs s2 hq => ?_) fun _ _ z => z)
  obtain ⟨us, H1, I1, r, hl, q⟩ := hq
  exact ⟨rfl, by rw [← r.length]; exact hl, I1.bk _ _ hC, hN.keeps I1.bk, T.keeps I1.bk, fun h' e m => ht pins σ H1 s2 h' e C _ I1 m q⟩
end
end L2
namespace L2
open PySem PySem.Spec PyProof.Rows
def TopDict (w : World) (K : PySem.W.Frag) (a : Addr) : Prop := ∃ es n, K.lookup a = some ⟨.type "dict", none, .dict es n, #[]⟩ ∧ PySem.W.KeysLit w.params es.toList
section
variable {X : Cx} {a : Addr} {ke : Expr} {tk : TE} {p pos : Pos} {D : Str}
def tTop (K : PySem.W.Frag) (a : Addr) (tk : TE) : TE := fun σ H Q => tk σ H fun x H1 => ∃ (k : Str) (u : Value) (v : V), x = .str k ∧ PySem.W.nsIn K a k = some (some u) ∧ RelV v u ∧ Q v H1
theorem top_item {pins : List (Addr × Obj)} {σ : St} {H : Hp} {s : Shared} {x : Str} {t : Tok} {u : Value} {A : Around} {E : Value → Shared → Prop} {Q : Value → Shared → Prop} (I : Inv X pins σ H s) (T : TopDict X.w X.K a) (e : PySem.W.nsIn X.K a x = some (some u)) (h : Q u { s with toks := s.toks + 1 }) :
    wpAny (model X.prog X.w) A (getItem (.ref a) (.str x t)) Q E s := by
  obtain ⟨es, n, hl, hk⟩ := T
  exact wpAny_getItem_of (strKind_is X.prog X.w x t) (PySem.W.mapOf_K (prog := X.prog) I.kIn hl hk) (PySem.W.find_K hl e) h
def rTopIn (w : World) (K : PySem.W.Frag) : R2 := fun x y H Q => ∃ (k : Str) (a : Addr) (r : Option Value), x = .str k ∧ y = .ref a ∧ TopDict w K a ∧ (a == sysModules) = false ∧ PySem.W.nsIn K a k = some r ∧ Q (.bl r.isSome) H
def tCallV (P : Program) (w : World) (K : PySem.W.Frag) (mg : Str → Option Value) (base : Heap) (CX : CXT) (k : Nat) (E : XK) (tf : TE) (t : TA) : TE := fun σ H Q => tf σ H fun x H1 => ∃ (f : Addr) (fd : FuncData) (ps : List Str) (sp : Sp), x = .ref f ∧ FnOk P w K mg base CX k f fd ps sp ∧ PySem.W.keepIn K (.ref f) = true ∧ Binds K fd ps [] ∧ t σ H1 fun vs H2 => sp vs H2 Q E
theorem pe_callV {CX : CXT} {k : Nat} {E : XK} {func e : Expr} {es : List Expr} {tf : TE} {t : TA} (hf : PE X func tf) (hr : Room k X.A) (hx : Passes CX X E) (ha : PA X (e :: es) t)
    (he : starEach (e :: es) X.env = (false, eval e X.env) :: starEach es X.env := by rfl) (hpl : (backTo pos (starEach es X.env)).any (·.1) = false := by rfl)
    (hc : eval (.Call func (e :: es) [] pos) X.env = (do callWith pos (← eval func X.env) [] (backTo pos (starEach (e :: es) X.env)) (backToKw pos (keywordEach [] X.env))) := by rfl) :
    PE X (.Call func (e :: es) [] pos) (tCallV X.prog X.w X.K X.mg X.base CX k E tf t) := by
  intro pins s σ H Q I h
  refine Call_ (thn (hf pins s σ H _ I h) fun u s1 ⟨x, H1, I1, rx, f, fd, ps, sp, ex, F, hk, hb, q⟩ => ?_) hc
  subst ex
  obtain rfl : u = Value.ref f := rx
  refine PySem.W.callWith_K (h₀ := X.base) I.ok.mod.kin hk (thn (ha pos pins s1 σ H1 _ I1 q) fun us s2 ⟨vs, H2, I2, r, q2⟩ => ⟨I2.kIn, ?_⟩) he hpl
  exact run_fn (dvs := []) (ds := []) F hr hb .nil hx I2 r (by simpa using q2)
end
end L2
namespace L2
open PySem PySem.Spec PyProof.Rows
section
variable {X : Cx}
def rIxTop (w : World) (K : PySem.W.Frag) : R2 := fun x y H Q => ∃ (a : Addr) (k : Str) (u : Value) (v : V), x = .ref a ∧ y = .str k ∧ TopDict w K a ∧ PySem.W.nsIn K a k = some (some u) ∧ RelV v u ∧ Q v H
theorem ix_top : IxR X (rIxTop X.w X.K) := by
  intro value slice pins s σ H x y v u Q I rx ry h hs
  obtain ⟨a, k, u', z, rfl, rfl, T, e, r, q⟩ := h
  cases (show v = Value.ref a from rx)
  obtain ⟨t, rfl⟩ := (show ∃ t, u = Value.str k t from ry)
  have T' := T
  obtain ⟨es, n, hl, hk⟩ := T'
  exact tail_any (PySem.W.mapOf_K (prog := X.prog) I.kIn hl hk).typeIs slot_dict_getitem.lookup (top_item I T e ⟨z, H, I.tok _, r, q⟩) hs
structure ExcCls (K : PySem.W.Frag) (C : Addr) : Prop where
  hg : PySem.W.findIn K (.ref C) "__getattribute__" = some (some (.builtin "BaseException.__getattribute__"))
  hgg : PySem.W.findIn K (.ref C) "__getattr__" = some none
  hsb : PySem.W.subIn K (.ref C) (.type "BaseException") = some true
  hd : PySem.W.hasDictIn K C = true
  ha : PySem.W.findIn K (.ref C) "__class__" = some (some (.builtin "object.__class__"))
  hn : PySem.W.specialIn K (.builtin "object.__class__") "__get__" = some (some (.builtin "getset_descriptor.__get__"))
  ht : PySem.W.takesIn K (.builtin "object.__class__") = some true
  hm : PySem.W.mroIn K C (.type "object") = some true
def TyX (K : PySem.W.Frag) (H : Hp) (x : V) (t : Value) : Prop := TyOf K H x t ∨ ∃ e C, x = .ref e ∧ H e = some (excO e C) ∧ t = .ref C ∧ ExcCls K C
def rIsi (K : PySem.W.Frag) : List V → Hp → VK → Prop := fun vs H Q => ∃ (x c : V) (cv t : Value) (b : Bool), vs = [x, c] ∧ RelV c cv ∧ (∀ u, RelV c u → u = cv) ∧ TyX K H x t ∧ PySem.W.kitOne K t cv = some b ∧ Q (.bl b) H
theorem call_isinst : CallR X (.builtin "isinstance") (rIsi X.K) := by
  intro pins s σ H xs us Q I r h
  obtain ⟨x, c, cv, t, b, rfl, rc, ic, ty, e, q⟩ := h
  obtain ⟨u, w', rfl, ru, rw'⟩ := vals2 r
  cases ic w' rw'
  rcases ty with ty | ⟨ea, C, rfl, he, rfl, ec⟩
  · exact isinst_ok I ru ty e fun tk => ⟨.bl b, H, I.tok _, rfl, q⟩
  · cases (show u = Value.ref ea from ru)
    obtain ⟨p, _⟩ := (show ObjOk X.prog X.w H s.heap ea (excO ea C) from I.hok ea _ he)
    exact PySem.W.kia_one (My.kitx_exc ec.hg ec.hgg ec.hsb ec.hd ec.ha ec.hn ec.ht ec.hm) I.kIn p e (fun z => nomatch z) fun tk => ⟨.bl b, H, I.tok _, rfl, q⟩
end
theorem passF {P : Program} {w : World} {base : Heap} {X : Cx} : Passes (CXe P w base) X E0 := fun _ _ _ _ _ _ _ h => by
  obtain ⟨_, _, _, _, _, _, _, _, _, q⟩ := h
  exact q.elim
section
variable {P : Program} {w : World} {K : PySem.W.Frag} {mg : Str → Option Value} {base : Heap}
theorem Fun.okE {x qual : Str} {st : Stmt} {f : Addr} {fd : FuncData} {N ps : List Str} {k : Nat} {sp : Sp} (F : Fun K x qual st f fd) (S : FnScope N ps (defScope st)) (len : ∀ vs H Q E, sp vs H Q E → vs.length = ps.length)
    (hbody : ∀ (cdv : Value) (A : Around) (outer : List Env) (s : Shared) (H : Hp) (vs : List V) (Q : VK) (E : XK), Room k (A.deeper (envOfC qual (defScope st) s.heap.objs.size f cdv)) → sp vs H Q E →
      ∃ t, PSs (cxOf (CXe P w base) P w K mg base N qual (defScope st) f cdv A outer s H E) (defBody st) t ∧ t { nx := fun _ H' => Q .non H', rt := Q } (start N vs) H) : FnOk P w K mg base (CXe P w base) (k + 1) f fd ps sp := by
  obtain ⟨oc, od, kV, doc, pm, an, cdv, ct, osl, rfl, lk, hcd⟩ := F.ex
  exact fn_of lk hcd S len fun A outer s H vs Q E hr hsp => hbody cdv A outer s H vs Q E hr hsp
def DefIn (K : PySem.W.Frag) (mg : Str → Option Value) (x : Str) (st : Stmt) (ps : List Str) : Prop := ∃ (f : Addr) (fd : FuncData), mg x = some (.ref f) ∧ Fun K x x st f fd ∧ Binds K fd ps []
theorem defIn_mk {h : Heap} {x : Str} {st : Stmt} {ps : List Str} {f : Addr} {oc : Value} {od an : Option Addr} {osl : Array (Option Value)} {kV doc pm cdv ct : Value} (X : K.In h) (G : h.Ns mainGlobals mg)
    (a : PySem.W.nsIn K mainGlobals x = some (some (.ref f))) (l : K.lookup f = some ⟨oc, od, .func (PySem.W.fnOf x x (defArgs st) (defBody st) (defScope st) .none kV doc pm an cdv ct), osl⟩)
    (c : PySem.W.codeIn K cdv x = true) (k : PySem.W.keepIn K (.ref f) = true)
    (b : ∀ (kV doc pm : Value) (an : Option Addr) (cdv ct : Value) (us : List Value), us.length = ps.length → bindArgs (PySem.W.fnOf x x (defArgs st) (defBody st) (defScope st) .none kV doc pm an cdv ct) ⟨us, []⟩ = pure (ps.zip us)) : DefIn K mg x st ps :=
  ⟨f, _, PySem.W.mg_of X G a, fun_mk l c k, (fun_mk l c k).binds b⟩
def Ok (P : Program) (w : World) (K : PySem.W.Frag) (mg : Str → Option Value) (base : Heap) (CX : CXT) (k : Nat) (x : Str) (ps : List Str) (sp : Sp) : Prop :=
  ∃ (f : Addr) (fd : FuncData), mg x = some (.ref f) ∧ PySem.W.keepIn K (.ref f) = true ∧ Binds K fd ps [] ∧ FnOk P w K mg base CX k f fd ps sp
theorem Ok.mono {CX : CXT} {j k : Nat} {x : Str} {ps : List Str} {sp : Sp} (o : Ok P w K mg base CX j x ps sp) (h : j ≤ k) : Ok P w K mg base CX k x ps sp := by
  obtain ⟨f, fd, a, b, c, d⟩ := o
  exact ⟨f, fd, a, b, c, d.mono h⟩
end
theorem pe_ok {X : Cx} {CX : CXT} {k : Nat} {x : Str} {ps : List Str} {sp : Sp} {E : XK} {p pos : Pos} {e : Expr} {es : List Expr} {t : TA} (o : Ok X.prog X.w X.K X.mg X.base CX k x ps sp) (hr : Room k X.A) (hg : Gl X x) (hx : Passes CX X E) (ha : PA X (e :: es) t)
    (hdb : (x == ("__debug__" : Str)) = false := by decide) (he : starEach (e :: es) X.env = (false, eval e X.env) :: starEach es X.env := by rfl) (hpl : (backTo pos (starEach es X.env)).any (·.1) = false := by rfl) :
    PE X (.Call (.Name x p) (e :: es) [] pos) (tCall sp [] E t) := by
  obtain ⟨f, fd, a, b, c, d⟩ := o
  exact pe_call d hr hg a b c .nil hx ha hdb he hpl
end L2
namespace L2
open PySem PySem.Spec PyProof.Rows
theorem ints_of : ∀ {ns : List Int} {us : List Value}, Vals (ns.map V.int) us → IntsAre us ns
  | [], _, .nil => .nil
  | n :: ns, _, .cons ⟨t, e⟩ r => by subst e; exact .cons n t (ints_of r)
section
variable {X : Cx}
def rEqI (K : PySem.W.Frag) : R2 := fun x y H Q => ∃ (p q : Addr) (ns ms : List Int), x = .ref p ∧ y = .ref q ∧ SqL K H p (ns.map V.int) ∧ SqL K H q (ms.map V.int) ∧ Q (.bl (decide (ns = ms))) H
theorem op_fdivB : OpR X (binaryOp .FloorDiv) (rI (fun _ j => j ≠ 0 ∧ -18446744073709551616 < j ∧ j < 18446744073709551616) fun i j => .int (i.fdiv j)) := opI fun i j _ _ _ _ _ hc q => floordiv_int hc.1 q (.inl (PyProof.noPylong_of_log2 (by
  have h64 : j.natAbs < 2 ^ 65 := by omega
  have := (Nat.log2_lt (by omega : j.natAbs ≠ 0)).mpr h64
  omega)))
end
def sp1 (g : Int → V) : Sp := fun vs H Q _ => ∃ n, vs = [.int n] ∧ Q (g n) H
def sp2 (C : Int → Int → Prop) (g : Int → Int → Int) : Sp := fun vs H Q _ => ∃ a b, vs = [.int a, .int b] ∧ C a b ∧ Q (.int (g a b)) H
theorem len1 {g : Int → V} : ∀ vs H Q E, sp1 g vs H Q E → vs.length = 1 := fun vs H Q E ⟨n, e, _⟩ => by rw [e]; rfl
theorem len2 {C : Int → Int → Prop} {g : Int → Int → Int} : ∀ vs H Q E, sp2 C g vs H Q E → vs.length = 2 := fun vs H Q E ⟨a, b, e, _⟩ => by rw [e]; rfl
end L2
namespace L2
open PySem PySem.Spec PyProof.Rows
theorem pe_gint {X : Cx} {x : Str} {i : Int} {t : Tok} {pos : Pos} (hm : X.mg x = some (.int i t)) (hg : Gl X x := by rfl) (hd : (x == ("__debug__" : Str)) = false := by decide) : PE X (.Name x pos) (tC (.int i)) := pe_glob hg hm (v := .int i) ⟨_, rfl⟩ hd
theorem pe_gref {X : Cx} {x : Str} {a : Addr} {pos : Pos} (hm : X.mg x = some (.ref a)) (hg : Gl X x := by rfl) (hd : (x == ("__debug__" : Str)) = false := by decide) : PE X (.Name x pos) (tC (.ref a)) := pe_glob hg hm (v := .ref a) rfl hd
theorem pe_bty {X : Cx} {x : Str} {n : String} {pos : Pos} (hm : X.mg x = none) (hv : bootBuiltins x = some (.type n)) (hg : Gl X x := by rfl) (hn : x ≠ "__name__" := by decide) (hd : (x == ("__debug__" : Str)) = false := by decide) : PE X (.Name x pos) (tC (.ty n)) := pe_bltn hg hm hv (v := .ty n) rfl hn hd
end L2
namespace L2
open PySem PySem.Spec PyProof.Rows
abbrev Cx.comp (X : Cx) (scope : Scope) (cl : List (Str × Addr)) (NY : List Str) (s3 : Shared) (H3 : Hp) (fp : List Addr) : Cx :=
  { X with N := NY, s₀ := s3, H₀ := H3, env := compEnvC scope cl s3.heap.objs.size X.env, outer := X.stack, ex := fp, fn := fun _ => false, pn := [], xe := fun _ _ => False }
structure Sees (X : Cx) (scope : Scope) (cl : List (Str × Addr)) : Prop where
  kind : scope.kind = .function
  clos : closureFor scope X.env = pure cl
  nocell : ∀ y ∈ scope.names, y.2 ≠ .cell
  names : ∀ y ∈ scope.names, y.2 = .local → scope.names.lookup y.1 = some .local
  sub : ∀ x c, cl.lookup x = some c → X.env.cells.lookup x = some c
  has : ∀ x, ((compEnvC scope cl 0 X.env).kindOf x = some .cell ∨ (compEnvC scope cl 0 X.env).kindOf x = some .free) → ∃ c, cl.lookup x = some c
section
variable {X : Cx} {pins : List (Addr × Obj)} {σ : St} {H3 : Hp} {s3 : Shared} {scope : Scope} {cl : List (Str × Addr)} {NY : List Str} {fp : List Addr}
theorem comp_ok (I : Inv X pins σ H3 s3) (S : Sees X scope cl) (hfp : ∀ b ∈ fp, FpOk X pins H3 b) (hob : ∀ b ∈ fp, ∃ o, s3.heap.get? b = some o) : (X.comp scope cl NY s3 H3 fp).Ok where
  mod := I.ok.mod
  kind := S.kind
  glob := I.ok.glob
  blt := I.ok.blt
  above := Nat.le_refl _
  inj := fun x y c a b => I.ok.inj x y c (S.sub _ _ a) (S.sub _ _ b)
  has := fun x h => S.has x h
  cab := fun _ _ h => nomatch h
  hd := I.ok.hd
  frames := I.ok.frames
  stk := .inl rfl
  exf := fun b hb => ⟨fun z => by
    obtain ⟨o, q⟩ := hob b hb
    exact absurd (Heap.lt_size q) (by rw [z]; exact Nat.lt_irrefl _), fun x c q => (hfp b hb).2.2.2.2.1 x c (S.sub _ _ q)⟩
  bs := I.bs
  bsz := Nat.le_trans I.ok.bsz I.sz
  noex := fun b o q hb => by
    rcases (hfp b hb).2.2.2.1 with z | z
    · exact I.ok.noex b o q z
    · exact absurd (Nat.lt_of_lt_of_le (Heap.lt_size q) (Nat.le_trans I.ok.bsz z)) (Nat.lt_irrefl _)
  exfs := fun b hb z => by
    rcases List.mem_cons.mp (I.stkSub b z) with y | y
    · exact (hfp b hb).2.1 y
    · exact (hfp b hb).2.2.1 y
  funs := I.stack
  frf := I.stkFree
theorem comp_inv {h1 : Heap} {t : Nat} {σY : St} (I : Inv X pins σ H3 s3) (S : Sees X scope cl) (hfp : ∀ b ∈ fp, FpOk X pins H3 b) (hob : ∀ b ∈ fp, ∃ o, s3.heap.get? b = some o)
    (hn : h1.Ns s3.heap.objs.size fun _ => none) (hk : ∀ b o, s3.heap.get? b = some o → h1.get? b = some o) (hl : σY.length = NY.length)
    (hσ : ∀ (i : Nat) (x : Str) (v : V), NY[i]? = some x → σY[i]? = some (some v) → ∃ c u, (((compEnvC scope cl 0 X.env).kindOf x = some .cell ∨ (compEnvC scope cl 0 X.env).kindOf x = some .free)) ∧ cl.lookup x = some c ∧ RelV v u ∧ s3.heap.IsCell c (some u)) :
    Inv (X.comp scope cl NY s3 H3 fp) [] σY H3 { s3 with heap := h1, toks := t } where
  ok := comp_ok I S hfp hob
  os := rfl
  bare := I.bare
  base := Un.kept hk
  loc := ⟨_, hn, fun i x v e1 e2 _ => by
    obtain ⟨c, u, k, q, r, z⟩ := hσ i x v e1 e2
    obtain ⟨o, z1, z2⟩ := z
    exact ⟨u, r, .inr ⟨k, c, q, o, hk _ _ z1, z2⟩⟩⟩
  cell := fun x c q => by
    obtain ⟨v, o, z1, z2⟩ := I.cell x c (S.sub _ _ q)
    exact ⟨v, o, hk _ _ z1, z2⟩
  free := I.hok.fresh (Nat.le_refl _)
  freeC := fun x c q => I.freeC x c (S.sub _ _ q)
  pin := fun p hp => absurd hp (by simp)
  hok := I.hok.kept hk
  len := hl
theorem comp_back {Y : List (Addr × Obj)} {σY : St} {H' : Hp} {s' : Shared} {h' : Heap} (I : Inv X pins σ H3 s3) (hfp : ∀ b ∈ fp, FpOk X pins H3 b) (J : Inv (X.comp scope cl NY s3 H3 fp) Y σY H' s') (hs : Heap.SameBut s3.heap.objs.size s'.heap h') :
    Inv X pins σ H' { s' with heap := h' } := by
  have ne : ∀ b o, s3.heap.get? b = some o → b ≠ s3.heap.objs.size := fun b o q => Nat.ne_of_lt (Heap.lt_size q)
  have B := J.base
  refine I.call' (s' := { s' with heap := h' }) (ch := fp) J.os ⟨fun b o q n hb hx => ?_, fun b o q n hb hx => ?_, B.free, fun b o q hx => ?_, B.tups, B.frzs, B.tbls⟩ (fun b o q => ?_) J.bare fun b hb => ?_
  · exact (hs.2 b (ne b o q)).trans (B.keep b o q n hb hx)
  · obtain ⟨sl, z⟩ := B.slot b o q n hb hx
    exact ⟨sl, (hs.2 b (ne b o q)).trans z⟩
  · obtain ⟨o', z⟩ := B.there b o q hx
    exact ⟨o', (hs.2 b (ne b o q)).trans z⟩
  · have hf : H' s3.heap.objs.size = none := J.free
    refine (J.hok b o q).stay (fun c v hc r => (hs.2 c ?_).trans r) (fun _ z => z) fun _ _ z => z
    rintro rfl
    rcases hc with z | z
    · rw [← z, hf] at q; cases q
    · rw [hf] at z; cases z
  · obtain ⟨_, f2, _, f4, f5, f6⟩ := hfp b hb
    exact ⟨f4, f2, f5, f6⟩
end
end L2
namespace L2
open PySem PySem.Spec PyProof.Rows
section
variable {prog : Program} {w : World} {A : Around} {R : Result → Shared → Prop} {s : Shared}
theorem comp_loop {elt target iter : Expr} {scope : Scope} {pos : Pos} {it acc : Value} {env : Env} (I : Nat → Shared → Prop)
    (turn : ∀ n s, I n s → wpAny (model prog w) A (pyNext it) (fun r s₁ => match r with
      | none => R (.ok .next) s₁
      | some v => wpAny (model prog w) A (letOwnedTupleGo target it v) (fun _ s₂ => wpAny (model prog w) A (assign target env v) (fun _ s₃ => wpAny (model prog w) A (eval elt env) (fun x s₄ =>
          wpAny (model prog w) A (call (.builtin "list.append") [acc, x]) (fun _ s₅ => ∃ m, m < n ∧ I m s₅) (fun _ _ => False) s₄) (fun _ _ => False) s₃) (fun _ _ => False) s₂) (fun _ _ => False) s₁) (fun _ _ => False) s)
    (n : Nat) (h : I n s) : codeAny (model prog w) A (.compLoop (.ListComp elt [⟨target, iter, [], 0⟩] scope pos) 0 it acc env) R s := by
  refine codeAny_loop rfl I (fun n s hI => ?_) n h
  show wpAny _ _ ((compTurn (.ListComp elt [⟨target, iter, [], 0⟩] scope pos) 0 it acc env).onRaise (fun x => do noteFrame x env; theTreesLotGoes x)) _ _ s
  refine wpAny_noted ?_
  rw [compTurn_list1]
  refine wpAny_bind (wpAny_standAt (wpAny_bind (wpAny_mono (turn n s hI) (fun r s₁ h₁ => ?_) fun _ _ z => z.elim)))
  cases r with
  | none => exact wpAny_pure h₁
  | some v =>
    refine wpAny_bind (wpAny_mono h₁ (fun _ s₂ h₂ => ?_) fun _ _ z => z.elim)
    refine wpAny_bind (wpAny_mono h₂ (fun _ s₃ h₃ => ?_) fun _ _ z => z.elim)
    refine wpAny_bind (wpAny_bind (wpAny_mono h₃ (fun x s₄ h₄ => ?_) fun _ _ z => z.elim))
    exact wpAny_bind (wpAny_mono h₄ (fun _ s₅ h₅ => wpAny_pure (wpAny_pure ⟨rfl, h₅⟩)) fun _ _ z => z.elim)
end
def CompW (J : It) (g : TG) (te : TE) (σY : St) (H1 : Hp) (D : Addr) (Q : VK) : Prop := ∃ W : Nat → Nat → St → Hp → Prop, (∃ m, W 0 m σY H1) ∧ ∀ i m σ' H', W i m σ' H' →
  (J.stop i H' ∧ Q (.ref D) H') ∨ (J.go i H' ∧ ∃ N : St → Hp → Prop, (∀ σ2 H2, N σ2 H2 → ∃ m', m' < m ∧ W (i + 1) m' σ2 H2) ∧
    ∀ x H2, J.yld i H' x H2 → g x σ' H2 fun σ3 H3 => te σ3 H3 fun v H4 => ∃ xs, H4 D = some (.lst xs) ∧ xs.length < sizeLine ∧ N σ3 (upd H4 D (.lst (xs ++ [v]))))
def tComp (wi : TI) (g : TG) (te : TE) (σ0 : St → Hp → St → Prop) : TE := fun σ H Q => wi σ H fun J H1 => ∃ σY, σ0 σ H1 σY ∧ ∀ D, H1 D = none → CompW J g te σY (upd H1 D (.lst [])) D Q
section
variable {X : Cx} {tg : Expr}
structure CompEnd (X : Cx) (pins : List (Addr × Obj)) (σ : St) (H5 : Hp) (s6 : Shared) (C : Addr) : Prop where
  ns : ∃ m, s6.heap.Ns C m
  hn : H5 C = none
  hL : C ≠ X.env.locals
  h1 : X.s₀.heap.objs.size ≤ C
  h2 : ∀ x c, X.env.cells.lookup x = some c → c ≠ C
  h3 : ∀ p ∈ X.pn ++ pins, p.1 ≠ C
  inv : ∀ h', Heap.SameBut C s6.heap h' → Inv X pins σ H5 { s6 with heap := h' }
theorem comp_core {iter elt : Expr} {scope : Scope} {pos pos' : Pos} {cl : List (Str × Addr)} {NY : List Str} {wi : TI} {g : TG} {te : TE} {σ0 : St → Hp → St → Prop} (hc : X.calm = true) (S : Sees X scope cl) (hi : PI X tg iter wi)
    (hY : ∀ (s3 : Shared) (H3 : Hp) (fp : List Addr), PG (X.comp scope cl NY s3 H3 fp) tg g ∧ PE (X.comp scope cl NY s3 H3 fp) elt te)
    (h0 : ∀ (pins : List (Addr × Obj)) (σ : St) (H : Hp) (s3 : Shared) (σY : St), Inv X pins σ H s3 → σ0 σ H σY → σY.length = NY.length ∧ ∀ (i : Nat) (x : Str) (v : V), NY[i]? = some x → σY[i]? = some (some v) →
      ∃ c u, (((compEnvC scope cl 0 X.env).kindOf x = some .cell ∨ (compEnvC scope cl 0 X.env).kindOf x = some .free)) ∧ cl.lookup x = some c ∧ RelV v u ∧ s3.heap.IsCell c (some u))
    (hs : ∀ x, foldedSetIterable iter X.env x = pure x) {use : Option (Value → Sem Unit)} {R : Value → Shared → Prop} {pins : List (Addr × Obj)} {s : Shared} {σ : St} {H : Hp} {Q : VK} (I : Inv X pins σ H s) (h : tComp wi g te σ0 σ H Q)
    (fin : ∀ (C D : Addr) (H5 : Hp) (s6 : Shared), CompEnd X pins σ H5 s6 C → Q (.ref D) H5 → compPost (model X.prog X.w) X.A X.xe use R (.ref D) C (.ok .next) s6) :
    wpAny (model X.prog X.w) X.A (comprehension (.ListComp elt [⟨tg, iter, [], 0⟩] scope pos) scope X.env pos' (newList []) (firstAsync [⟨tg, iter, [], 0⟩]) (firstIter [⟨tg, iter, [], 0⟩] X.env) use) R X.xe s := by
  refine wpAny_comprehension_free rfl hs S.clos S.kind S.names (thn (hi pins s σ H _ I h) fun v s1 h1 => thn h1 fun itv s2 h2 => ?_)
  obtain ⟨it, fp, tn, J, H2, e, I2, T, st2, f2, σY, hσ, hW⟩ := h2
  subst e
  refine wpAny_newObj_type ?_
  have I3 : Inv X pins σ (upd H2 s2.heap.objs.size (.lst [])) { s2 with heap := s2.heap.push { cls := .type "list", data := .seq ([] : List Value).toArray } } := I2.lnew (t' := s2.toks) (its := []) .nil (Nat.zero_le _)
  obtain ⟨W, ⟨m0, w0⟩, turn⟩ := hW s2.heap.objs.size (I2.hok.fresh (Nat.le_refl _))
  have ob2 := T.obj _ _ st2
  have hfp : ∀ b ∈ fp, FpOk X pins (upd H2 s2.heap.objs.size (.lst [])) b := fun b hb => by
    obtain ⟨o, q, _⟩ := ob2 b hb
    exact ⟨by rw [upd_ne (Nat.ne_of_lt (Heap.lt_size q))]; exact (f2 b hb).1, (f2 b hb).2⟩
  have hob : ∀ b ∈ fp, ∃ o, (s2.heap.push { cls := .type "list", data := .seq ([] : List Value).toArray }).get? b = some o := fun b hb => by
    obtain ⟨o, q, _⟩ := ob2 b hb
    exact ⟨o, Heap.get?_push_of_some _ q⟩
  refine wpAny_newFunctionEnv S.nocell (fun y hy => absurd hy (by simp)) (fun h1 hn1 hs1 => ?_) S.kind
  obtain ⟨hl, hY0⟩ := h0 pins σ H2 s2 σY I2 hσ
  have k23 : ∀ b o, s2.heap.get? b = some o → (s2.heap.push { cls := .type "list", data := .seq ([] : List Value).toArray }).get? b = some o := fun b o q => Heap.get?_push_of_some _ q
  have k34 : ∀ b o, (s2.heap.push { cls := .type "list", data := .seq ([] : List Value).toArray }).get? b = some o → h1.get? b = some o := fun b o q => (hs1.2 b (Nat.ne_of_lt (Heap.lt_size q))).trans (Heap.get?_push_of_some _ q)
  have I4 := comp_inv (scope := scope) (cl := cl) (NY := NY) (fp := fp) (h1 := h1) (t := s2.toks) (σY := σY) I3 S hfp hob hn1 k34 hl fun i x v e1 e2 => by
    obtain ⟨c, u, k, q, r, o, z1, z2⟩ := hY0 i x v e1 e2
    exact ⟨c, u, k, q, r, o, k23 _ _ z1, z2⟩
  have st4 : tn 0 h1 := T.keep _ _ _ st2 fun b hb o q => k34 _ _ (k23 _ _ q)
  have fr4 : ∀ b ∈ fp, (upd H2 s2.heap.objs.size (.lst [])) b = none := fun b hb => (hfp b hb).1
  obtain ⟨hg, he⟩ := hY { s2 with heap := s2.heap.push { cls := .type "list", data := .seq ([] : List Value).toArray } } (upd H2 s2.heap.objs.size (.lst [])) fp
  have okY := I4.ok
  have statY : ∀ {H' : Hp}, (∀ b ∈ fp, H' b = none) → ∀ b ∈ fp, FpOk (X.comp scope cl NY { s2 with heap := s2.heap.push { cls := .type "list", data := .seq ([] : List Value).toArray } } (upd H2 s2.heap.objs.size (.lst [])) fp) [] H' b :=
    fun hn b hb => ⟨hn b hb, (okY.exf b hb).1, okY.exfs b hb, .inl hb, (okY.exf b hb).2, fun p hp => absurd hp (by simp)⟩
  have loop : codeAny (model X.prog X.w) X.A (.compLoop (.ListComp elt [⟨tg, iter, [], 0⟩] scope pos) 0 (.ref it) (.ref s2.heap.objs.size) (compEnvC scope cl (s2.heap.push { cls := .type "list", data := .seq ([] : List Value).toArray }).objs.size X.env))
      (compPost (model X.prog X.w) X.A X.xe use R (.ref s2.heap.objs.size) (s2.heap.push { cls := .type "list", data := .seq ([] : List Value).toArray }).objs.size) { s2 with heap := h1, toks := s2.toks } := by
    refine comp_loop (fun n s' => ∃ i σ' H', Inv (X.comp scope cl NY { s2 with heap := s2.heap.push { cls := .type "list", data := .seq ([] : List Value).toArray } } (upd H2 s2.heap.objs.size (.lst [])) fp) [] σ' H' s' ∧ tn i s'.heap ∧ (∀ b ∈ fp, H' b = none) ∧ W i n σ' H') ?_ m0 ⟨0, σY, _, I4, st4, fr4, w0⟩
    rintro n s5 ⟨i, σ5, H5, I5, st5, fr5, w5⟩
    rcases turn i n σ5 H5 w5 with ⟨stop, q⟩ | ⟨go, N, hN, step⟩
    · refine thn (T.done (X.comp scope cl NY { s2 with heap := s2.heap.push { cls := .type "list", data := .seq ([] : List Value).toArray } } (upd H2 s2.heap.objs.size (.lst [])) fp) rfl rfl rfl hc i [] s5 σ5 H5 _ I5 (statY fr5) st5 stop) fun r s6 ⟨hr, I6⟩ => ?_
      subst hr
      obtain ⟨m, hm, _⟩ := I6.loc
      refine fin _ _ H5 s6 ⟨⟨m, hm⟩, I6.free, Ne.symm (Nat.ne_of_lt I3.lt), I3.sz, fun x c z => ?_, fun p hp => ?_, fun h' hs' => comp_back I3 hfp I6 hs'⟩ q
      · obtain ⟨_, o, z1, _⟩ := I3.cell x c z
        exact Nat.ne_of_lt (Heap.lt_size z1)
      · exact Nat.ne_of_lt (Heap.lt_size (I3.pin p hp).1)
    · refine thn (T.item (X.comp scope cl NY { s2 with heap := s2.heap.push { cls := .type "list", data := .seq ([] : List Value).toArray } } (upd H2 s2.heap.objs.size (.lst [])) fp) rfl rfl rfl hc i [] s5 σ5 H5 _ I5 (statY fr5) st5 go) fun r s6 ⟨u, hr, h6⟩ => ?_
      subst hr
      refine thn h6 fun _ s7 ⟨x, H7, I7, r7, y7, st7, fr7⟩ => ?_
      have I7' := I7.pinned (statY fr7) (T.obj _ _ st7)
      refine thn (hg _ s7 σ5 H7 x u _ I7' r7 (step x H7 y7)) fun _ s8 ⟨σ8, H8, I8, q8⟩ => ?_
      refine thn (he _ s8 σ8 H8 _ I8 q8) fun z s9 ⟨v9, H9, I9, r9, xs, hx9, hz9, n9⟩ => ?_
      refine thn (mt_append _ s9 σ8 H9 (.ref s2.heap.objs.size) [v9] (.ref s2.heap.objs.size) [z] (fun _ H' => H' = upd H9 s2.heap.objs.size (.lst (xs ++ [v9]))) I9 rfl (.cons r9 .nil) ⟨s2.heap.objs.size, xs, v9, rfl, rfl, hx9, hz9, rfl⟩) fun y s10 ⟨v10, H10, I10, _, e10⟩ => ?_
      subst e10
      obtain ⟨m', hm, w10⟩ := hN _ _ n9
      refine ⟨m', hm, i + 1, σ8, _, I10.unpinned, T.keep _ _ _ st7 fun b hb o q => (I10.pin (b, o) (List.mem_append_right _ (List.mem_append_right _ (mem_pinsAt hb q)))).1, fun b hb => ?_, w10⟩
      obtain ⟨o, q, d⟩ := T.obj _ _ st7 b hb
      exact (I10.pin (b, o) (List.mem_append_right _ (List.mem_append_right _ (mem_pinsAt hb q)))).2.1
  exact codeAny_compStart_list loop (T.self _ 0 _ _ _ st4 loop)
theorem pe_comp {iter elt : Expr} {scope : Scope} {pos : Pos} {cl : List (Str × Addr)} {NY : List Str} {wi : TI} {g : TG} {te : TE} {σ0 : St → Hp → St → Prop} (hc : X.calm = true) (S : Sees X scope cl) (hi : PI X tg iter wi)
    (hY : ∀ (s3 : Shared) (H3 : Hp) (fp : List Addr), PG (X.comp scope cl NY s3 H3 fp) tg g ∧ PE (X.comp scope cl NY s3 H3 fp) elt te)
    (h0 : ∀ (pins : List (Addr × Obj)) (σ : St) (H : Hp) (s3 : Shared) (σY : St), Inv X pins σ H s3 → σ0 σ H σY → σY.length = NY.length ∧ ∀ (i : Nat) (x : Str) (v : V), NY[i]? = some x → σY[i]? = some (some v) →
      ∃ c u, (((compEnvC scope cl 0 X.env).kindOf x = some .cell ∨ (compEnvC scope cl 0 X.env).kindOf x = some .free)) ∧ cl.lookup x = some c ∧ RelV v u ∧ s3.heap.IsCell c (some u))
    (hs : ∀ x, foldedSetIterable iter X.env x = pure x := by intro _; rfl) :
    PE X (.ListComp elt [⟨tg, iter, [], 0⟩] scope pos) (tComp wi g te σ0) := by
  intro pins s σ H Q I h
  rw [eval_ListComp]
  refine comp_core (use := none) hc S hi hY h0 hs I h fun C D H5 s6 e q => ?_
  obtain ⟨m, hm⟩ := e.ns
  exact ⟨m, hm, fun h' hs' => ⟨.ref D, H5, e.inv h' hs', rfl, q⟩⟩
theorem ps_comp {iter elt : Expr} {scope : Scope} {pos pos' spos : Pos} {cl : List (Str × Addr)} {NY : List Str} {wi : TI} {g : TG} {te : TE} {σ0 : St → Hp → St → Prop} {i : Nat} {y : Str} (hc : X.calm = true) (S : ∀ {pins σ H s}, Inv X pins σ H s → Sees X scope cl) (hi : PI X tg iter wi)
    (hY : ∀ (s3 : Shared) (H3 : Hp) (fp : List Addr), PG (X.comp scope cl NY s3 H3 fp) tg g ∧ PE (X.comp scope cl NY s3 H3 fp) elt te)
    (h0 : ∀ (pins : List (Addr × Obj)) (σ : St) (H : Hp) (s3 : Shared) (σY : St), Inv X pins σ H s3 → σ0 σ H σY → σY.length = NY.length ∧ ∀ (i : Nat) (x : Str) (v : V), NY[i]? = some x → σY[i]? = some (some v) →
      ∃ c u, (((compEnvC scope cl 0 X.env).kindOf x = some .cell ∨ (compEnvC scope cl 0 X.env).kindOf x = some .free)) ∧ cl.lookup x = some c ∧ RelV v u ∧ s3.heap.IsCell c (some u))
    (hs : ∀ x, foldedSetIterable iter X.env x = pure x) (hN : X.N.Nodup) (hi' : X.N[i]? = some y) (hx : Loc X.env.scope y) (hf : X.fn y = true ∨ X.env.scope.names.lookup y = some .local)
    (hw : swapsWith (.ListComp elt [⟨tg, iter, [], 0⟩] scope pos) (some (.Name y pos')) spos.line X.env = pure true) : PS X (.Assign [.Name y pos'] (.ListComp elt [⟨tg, iter, [], 0⟩] scope pos) spos) (tAsg (tComp wi g te σ0) (gName i)) := by
  intro pins s σ H D I h
  rw [exec_Assign_Name_used _ _ _ _ hw, arm_evalThenUse_ListComp]
  refine wpAny_bind (wpAny_standAt (wpAny_bind (wpAny_bind (wpAny_mono (comp_core (use := some (assign (.Name y pos') X.env)) (R := fun _ s' => SP X pins D .next s') hc (S I) hi hY h0 hs I h fun C L H5 s6 e q => ?_) (fun _ s' z => wpAny_pure (wpAny_pure z)) fun _ _ z => z))))
  obtain ⟨m, hm⟩ := e.ns
  have I6 : Inv X pins σ H5 s6 := e.inv s6.heap ⟨rfl, fun _ _ => rfl⟩
  refine wpAny_assign_Name (store_ok2 I6 hN hi' hx (v := .ref L) rfl (fun s' I' ⟨a, sb, ha⟩ => ?_) hf)
  have ne : C ≠ a := by
    rintro rfl
    rcases ha with z | z
    · exact e.hL z
    · exact e.h2 _ _ z rfl
  refine ⟨m, ?_, fun h' hs' => ?_⟩
  · obtain ⟨o, es, ep, z, r⟩ := hm
    exact ⟨o, es, ep, (sb.2 _ ne).trans z, r⟩
  · exact ⟨_, H5, I'.turned (t' := s'.toks) (it := C) (fun b o nb z => (hs'.2 b nb).trans z) e.hn e.hL (.inr e.h1) e.h2 e.h3, q⟩
end
end L2
namespace L2
open PySem PySem.Spec PyProof.Rows
theorem comp_list {K : PySem.W.Frag} {a D : Addr} {xs : List V} {g : TG} {te : TE} {σY : St} {H1 : Hp} {Q : VK} (Pv : Nat → St → Hp → Prop) (h0 : Pv 0 σY H1) (hl : ∀ i σ H, i ≤ xs.length → Pv i σ H → SqL K H a xs)
    (hs : ∀ i x σ H, xs[i]? = some x → Pv i σ H → g x σ H fun σ3 H3 => te σ3 H3 fun v H4 => ∃ ys, H4 D = some (.lst ys) ∧ ys.length < sizeLine ∧ Pv (i + 1) σ3 (upd H4 D (.lst (ys ++ [v])))) (hd : ∀ σ H, Pv xs.length σ H → Q (.ref D) H) :
    CompW (Itl K a) g te σY H1 D Q := by
  refine ⟨fun i m σ H => m = xs.length - i ∧ i ≤ xs.length ∧ Pv i σ H, ⟨xs.length, by simp, Nat.zero_le _, h0⟩, ?_⟩
  rintro i m σ H ⟨rfl, hi, p⟩
  have q := hl i σ H hi p
  by_cases hlt : i < xs.length
  · refine .inr ⟨⟨xs, xs[i], q, by simp [hlt]⟩, Pv (i + 1), fun σ' H' p' => ⟨xs.length - (i + 1), by omega, rfl, hlt, p'⟩, fun x H' y => ?_⟩
    obtain ⟨e, y⟩ := y
    subst e
    exact hs i x σ _ (y xs q) p
  · have e : i = xs.length := by omega
    subst e
    exact .inl ⟨⟨xs, q, Nat.le_refl _⟩, hd σ H p⟩
theorem comp_range {lo : Int} {n : Nat} {D : Addr} {g : TG} {te : TE} {σY : St} {H1 : Hp} {Q : VK} (Pv : Nat → St → Hp → Prop) (h0 : Pv 0 σY H1)
    (hs : ∀ i σ H, i < n → Pv i σ H → g (.int (lo + i)) σ H fun σ3 H3 => te σ3 H3 fun v H4 => ∃ ys, H4 D = some (.lst ys) ∧ ys.length < sizeLine ∧ Pv (i + 1) σ3 (upd H4 D (.lst (ys ++ [v])))) (hd : ∀ σ H, Pv n σ H → Q (.ref D) H) :
    CompW (Itr lo n) g te σY H1 D Q := by
  refine ⟨fun i m σ H => m = n - i ∧ i ≤ n ∧ Pv i σ H, ⟨n, by simp, Nat.zero_le _, h0⟩, ?_⟩
  rintro i m σ H ⟨rfl, hi, p⟩
  by_cases hlt : i < n
  · refine .inr ⟨hlt, Pv (i + 1), fun σ' H' p' => ⟨n - (i + 1), by omega, rfl, hlt, p'⟩, fun x H' y => ?_⟩
    obtain ⟨e, y⟩ := y
    subst e y
    exact hs i σ _ hlt p
  · have e : i = n := by omega
    subst e
    exact .inl ⟨Nat.le_refl _, hd σ H p⟩
end L2
namespace L2
open PySem PySem.Spec PyProof.Rows
def clGo (env : Env) : List (Str × NameKind) → List (Str × Addr) → List (Str × Addr)
  | [], cs => cs
  | y :: r, cs => clGo env r (if y.2 == .free then (y.1, (env.cells.lookup y.1).getD 0) :: cs else cs)
abbrev clOf (env : Env) (scope : Scope) : List (Str × Addr) := clGo env scope.names []
theorem closure_of {scope : Scope} {env : Env} (h : ∀ y ∈ scope.names, y.2 = .free → ∃ c, env.cells.lookup y.1 = some c) : closureFor scope env = pure (clOf env scope) := by
  rw [closureFor.eq_1]
  suffices q : ∀ (names : List (Str × NameKind)) (cs : List (Str × Addr)), (∀ y ∈ names, y.2 = .free → ∃ c, env.cells.lookup y.1 = some c) →
      (do
        let s ← forIn names cs fun x __s =>
          have cs := __s
          match x with
          | (name, kind) =>
            if (kind == NameKind.free) = true then do
              let l ← cellOf env name
              have cs : List (Str × Addr) := (name, l) :: cs
              pure (ForInStep.yield cs)
            else pure (ForInStep.yield cs)
        pure s : Sem (List (Str × Addr))) = pure (clGo env names cs) from (congrArg (fun (m : Sem (List (Str × Addr))) => m >>= fun s => (pure s : Sem (List (Str × Addr)))) (q scope.names [] h)).trans rfl
  intro names
  induction names with
  | nil => intro cs _; rfl
  | cons y r ih =>
    intro cs h
    obtain ⟨n, k⟩ := y
    have hr := fun y hy => h y (List.mem_cons_of_mem _ hy)
    rw [List.forIn_cons]
    show _ = pure (clGo env r (if k == .free then (n, (env.cells.lookup n).getD 0) :: cs else cs))
    by_cases e : k = .free
    · subst e
      obtain ⟨c, hc⟩ := h (n, .free) List.mem_cons_self rfl
      have e1 : cellOf env n = pure c := by unfold cellOf; rw [show env.cells.lookup n = some c from hc]
      simp only [e1, show env.cells.lookup n = some c from hc, Option.getD_some, beq_self_eq_true, if_true]
      exact ih _ hr
    · have e0 : (k == NameKind.free) = false := by simp [e]
      simp only [e0, Bool.false_eq_true, if_false]
      exact ih _ hr
theorem clGo_sub {env : Env} {x : Str} {c : Addr} : ∀ {names : List (Str × NameKind)} {cs : List (Str × Addr)}, (∀ y ∈ names, y.2 = .free → ∃ c, env.cells.lookup y.1 = some c) → (∀ x c, cs.lookup x = some c → env.cells.lookup x = some c) → (clGo env names cs).lookup x = some c → env.cells.lookup x = some c
  | [], cs, _, hc, h => hc _ _ h
  | (n, k) :: r, cs, hn, hc, h => by
    refine clGo_sub (fun y hy => hn y (List.mem_cons_of_mem _ hy)) (fun x c q => ?_) h
    by_cases e : k = .free
    · subst e
      obtain ⟨c', hc'⟩ := hn (n, .free) List.mem_cons_self rfl
      simp only [beq_self_eq_true, if_true, show env.cells.lookup n = some c' from hc', Option.getD_some, List.lookup_cons] at q
      by_cases z : x = n
      · subst z; simp at q; rw [← q]; exact hc'
      · have z' : (x == n) = false := by simp [z]
        rw [z'] at q
        exact hc _ _ q
    · have e0 : (k == NameKind.free) = false := by simp [e]
      rw [e0] at q
      exact hc _ _ q
theorem clGo_keep {env : Env} {x : Str} : ∀ {names : List (Str × NameKind)} {cs : List (Str × Addr)}, (∃ c, cs.lookup x = some c) → ∃ c, (clGo env names cs).lookup x = some c
  | [], _, h => h
  | (n, k) :: r, cs, h => by
    refine clGo_keep (names := r) ?_
    by_cases e : (k == NameKind.free) = true
    · simp only [e, if_true, List.lookup_cons]
      cases hx : x == n with
      | true => exact ⟨_, rfl⟩
      | false => exact h
    · simp only [e, if_false]; exact h
theorem clGo_has {env : Env} {x : Str} : ∀ {names : List (Str × NameKind)} {cs : List (Str × Addr)}, (x, NameKind.free) ∈ names → ∃ c, (clGo env names cs).lookup x = some c
  | (n, k) :: r, cs, h => by
    rcases List.mem_cons.mp h with e | e
    · cases e
      refine clGo_keep (names := r) ⟨(env.cells.lookup x).getD 0, ?_⟩
      simp
    · show ∃ c, (clGo env r _).lookup x = some c
      exact clGo_has e
def seesOk (X : Cx) (scope : Scope) : Bool :=
  (match scope.kind with | .function => true | _ => false) && scope.names.all fun y => match y.2 with
    | .cell => false
    | .free => (match X.env.kindOf y.1 with | some .cell => true | some .free => true | _ => false)
    | .local => (match scope.names.lookup y.1 with | some .local => true | _ => false)
    | _ => true
theorem sees_of {X : Cx} {scope : Scope} (ok : X.Ok) (h : seesOk X scope = true) : Sees X scope (clOf X.env scope) := by
  unfold seesOk at h
  rw [Bool.and_eq_true, List.all_eq_true] at h
  obtain ⟨hk, hn⟩ := h
  have fr : ∀ y ∈ scope.names, y.2 = .free → ∃ c, X.env.cells.lookup y.1 = some c := fun y hy e => by
    have q := hn y hy
    rw [e] at q
    refine ok.has y.1 ?_
    revert q
    dsimp only
    split
    · rename_i z; intro _; exact .inl z
    · rename_i z; intro _; exact .inr z
    · intro q; cases q
  refine ⟨?_, closure_of fr, fun y hy e => ?_, fun y hy e => ?_, fun x c q => clGo_sub fr (fun _ _ z => by cases z) q, fun x q => ?_⟩
  · revert hk
    cases scope.kind <;> simp
  · have q := hn y hy
    rw [e] at q
    exact Bool.false_ne_true q
  · have q := hn y hy
    rw [e] at q
    revert q
    dsimp only
    split
    · rename_i z; intro _; exact z
    · intro q; cases q
  · have key : ∀ k, (compEnvC scope (clOf X.env scope) 0 X.env).kindOf x = some k → (k = .cell ∨ k = .free) → (x, NameKind.free) ∈ scope.names := by
      intro k hk' hkk
      have q : ((scope.names.map fun y => match y with | (n, k) => if (k == NameKind.free && X.env.scope.kind == ScopeKind.function && X.env.kindOf n == some NameKind.cell) = true then (n, NameKind.cell) else (n, k))).lookup x = some k := hk'
      obtain ⟨n, k', e1, e2⟩ : ∃ n k', (n, k') ∈ scope.names ∧ (match (n, k') with | (n, k) => if (k == NameKind.free && X.env.scope.kind == ScopeKind.function && X.env.kindOf n == some NameKind.cell) = true then (n, NameKind.cell) else (n, k)) = (x, k) := by
        have m : (x, k) ∈ (scope.names.map fun y => match y with | (n, k) => if (k == NameKind.free && X.env.scope.kind == ScopeKind.function && X.env.kindOf n == some NameKind.cell) = true then (n, NameKind.cell) else (n, k)) := by
          revert q
          generalize (scope.names.map fun y => match y with | (n, k) => if (k == NameKind.free && X.env.scope.kind == ScopeKind.function && X.env.kindOf n == some NameKind.cell) = true then (n, NameKind.cell) else (n, k)) = l
          induction l with
          | nil => intro q; cases q
          | cons a l ih =>
            intro q
            obtain ⟨a1, a2⟩ := a
            rw [List.lookup_cons] at q
            cases hx : x == a1 with
            | true => rw [hx] at q; cases q; have := beq_iff_eq.mp hx; subst this; exact List.mem_cons_self
            | false => rw [hx] at q; exact List.mem_cons_of_mem _ (ih q)
        obtain ⟨⟨n, k'⟩, h1, h2⟩ := List.mem_map.mp m
        exact ⟨n, k', h1, h2⟩
      dsimp only at e2
      split at e2
      · rename_i z
        cases e2
        simp only [Bool.and_eq_true, beq_iff_eq] at z
        rw [z.1.1] at e1
        exact e1
      · cases e2
        rcases hkk with rfl | rfl
        · have z := hn _ e1
          exact absurd z Bool.false_ne_true
        · exact e1
    rcases q with q | q
    · exact clGo_has (key _ q (.inl rfl))
    · exact clGo_has (key _ q (.inr rfl))
def capOk (X : Cx) (scope : Scope) : List Str → List (Option Nat) → Bool
  | [], [] => true
  | _ :: r, none :: c => capOk X scope r c
  | x :: r, some j :: c => (match X.N[j]? with | some y => x == y | none => false) && (match (compEnvC scope (clOf X.env scope) 0 X.env).kindOf x with | some .cell => true | some .free => true | _ => false)
      && (match X.env.kindOf x with | some .cell => true | some .free => true | _ => false) && capOk X scope r c
  | _, _ => false
def capt (cap : List (Option Nat)) (σ : St) : St := cap.map fun o => o.bind fun j => (σ[j]?).join
theorem capt_ok {X : Cx} {scope : Scope} {pins : List (Addr × Obj)} {σ : St} {H : Hp} {s : Shared} (I : Inv X pins σ H s) (S : Sees X scope (clOf X.env scope)) : ∀ {NY : List Str} {cap : List (Option Nat)}, capOk X scope NY cap = true → (capt cap σ).length = NY.length ∧ ∀ (i : Nat) (x : Str) (v : V), NY[i]? = some x → (capt cap σ)[i]? = some (some v) →
      ∃ c u, (((compEnvC scope (clOf X.env scope) 0 X.env).kindOf x = some .cell ∨ (compEnvC scope (clOf X.env scope) 0 X.env).kindOf x = some .free)) ∧ (clOf X.env scope).lookup x = some c ∧ RelV v u ∧ s.heap.IsCell c (some u)
  | [], [], _ => ⟨rfl, fun i x v e _ => by cases e⟩
  | [], _ :: _, h => by cases h
  | y :: r, [], h => by cases h
  | y :: r, none :: c, h => by
    obtain ⟨l, q⟩ := capt_ok I S (NY := r) (cap := c) h
    refine ⟨by rw [List.length_cons, ← l]; rfl, fun i x v e1 e2 => ?_⟩
    cases i with
    | zero => cases e2
    | succ i => exact q i x v e1 e2
  | y :: r, some j :: c, h => by
    unfold capOk at h
    rw [Bool.and_eq_true, Bool.and_eq_true, Bool.and_eq_true] at h
    obtain ⟨⟨⟨h1, h2⟩, h3⟩, h4⟩ := h
    obtain ⟨l, q⟩ := capt_ok I S (NY := r) (cap := c) h4
    refine ⟨by rw [List.length_cons, ← l]; rfl, fun i x v e1 e2 => ?_⟩
    cases i with
    | succ i => exact q i x v e1 e2
    | zero =>
      have ey : y = x := Option.some.inj e1
      subst ey
      have ev : (σ[j]?).join = some v := Option.some.inj e2
      have hσ : σ[j]? = some (some v) := by
        cases z : σ[j]? with
        | none => rw [z] at ev; cases ev
        | some o => rw [z] at ev; rw [show o = some v from ev]
      have hN : X.N[j]? = some y := by
        cases z : X.N[j]? with
        | none => rw [z] at h1; cases h1
        | some y' => rw [z] at h1; rw [beq_iff_eq.mp h1]
      have hK : (compEnvC scope (clOf X.env scope) 0 X.env).kindOf y = some .cell ∨ (compEnvC scope (clOf X.env scope) 0 X.env).kindOf y = some .free := by
        revert h2
        split
        · rename_i z; intro _; exact .inl z
        · rename_i z; intro _; exact .inr z
        · intro q; cases q
      have hV : X.env.kindOf y = some .cell ∨ X.env.kindOf y = some .free := by
        revert h3
        split
        · rename_i z; intro _; exact .inl z
        · rename_i z; intro _; exact .inr z
        · intro q; cases q
      obtain ⟨c', hc'⟩ := S.has y hK
      obtain ⟨m, _, hl⟩ := I.loc
      obtain ⟨u, ru, lk⟩ := hl j y v hN hσ (.inr hV)
      refine ⟨c', u, hK, hc', ru, ?_⟩
      rcases lk with ⟨k, _⟩ | ⟨_, c2, e3, e4⟩
      · have k' : X.env.kindOf y = some .local := k
        rcases hV with z | z <;> rw [z] at k' <;> cases k'
      · have e5 := S.sub _ _ hc'
        rw [e3] at e5
        cases e5
        exact e4
abbrev tCompC (wi : TI) (g : TG) (te : TE) (cap : List (Option Nat)) : TE := tComp wi g te fun σ _ σY => σY = capt cap σ
section
variable {X : Cx} {tg : Expr}
theorem pe_compC {iter elt : Expr} {scope : Scope} {pos : Pos} {wi : TI} {g : TG} {te : TE} (NY : List Str) (cap : List (Option Nat)) (hc : X.calm = true) (hk : seesOk X scope = true) (hcap : capOk X scope NY cap = true) (hi : PI X tg iter wi)
    (hY : ∀ (s3 : Shared) (H3 : Hp) (fp : List Addr), PG (X.comp scope (clOf X.env scope) NY s3 H3 fp) tg g ∧ PE (X.comp scope (clOf X.env scope) NY s3 H3 fp) elt te)
    (hs : ∀ x, foldedSetIterable iter X.env x = pure x := by intro _; rfl) : PE X (.ListComp elt [⟨tg, iter, [], 0⟩] scope pos) (tCompC wi g te cap) := by
  intro pins s σ H Q I h
  have S := sees_of I.ok hk
  refine pe_comp (NY := NY) hc S hi hY (fun pins σ H s3 σY I3 e => ?_) hs pins s σ H Q I h
  subst e
  exact capt_ok I3 S hcap
theorem ps_compC {iter elt : Expr} {scope : Scope} {pos pos' spos : Pos} {wi : TI} {g : TG} {te : TE} {i : Nat} {y : Str} (NY : List Str) (cap : List (Option Nat)) (hc : X.calm = true) (hk : seesOk X scope = true) (hcap : capOk X scope NY cap = true) (hi : PI X tg iter wi)
    (hY : ∀ (s3 : Shared) (H3 : Hp) (fp : List Addr), PG (X.comp scope (clOf X.env scope) NY s3 H3 fp) tg g ∧ PE (X.comp scope (clOf X.env scope) NY s3 H3 fp) elt te) (hN : X.N.Nodup) (hi' : X.N[i]? = some y) (hx : Loc X.env.scope y)
    (hf : X.fn y = true ∨ X.env.scope.names.lookup y = some .local := by first | exact .inl rfl | exact .inr rfl) (hw : swapsWith (.ListComp elt [⟨tg, iter, [], 0⟩] scope pos) (some (.Name y pos')) spos.line X.env = pure true := by rfl)
    (hs : ∀ x, foldedSetIterable iter X.env x = pure x := by intro _; rfl) : PS X (.Assign [.Name y pos'] (.ListComp elt [⟨tg, iter, [], 0⟩] scope pos) spos) (tAsg (tCompC wi g te cap) (gName i)) := by
  refine ps_comp (NY := NY) hc (fun I => sees_of I.ok hk) hi hY (fun pins σ H s3 σY I3 e => ?_) hs hN hi' hx hf hw
  subst e
  exact capt_ok I3 (sees_of I3.ok hk) hcap
end
end L2
namespace L2
open PySem PySem.Spec PyProof.Rows
section
variable {X : Cx}
def rIsB (f : Bool → Bool → Bool) : R2 := fun x y H Q => ∃ a b, x = .bl a ∧ y = .bl b ∧ Q (.bl (f a b)) H
def rLenS (K : PySem.W.Frag) : List V → Hp → VK → Prop := fun xs H Q => ∃ p ys, xs = [.ref p] ∧ (SqL K H p ys ∨ SqT K H p ys) ∧ Q (.int ys.length) H
theorem call_lenK {K : PySem.W.Frag} (e : X.K = K) : CallR X (.builtin "len") (rLenS K) := by subst e; exact call_len_seq
theorem ix_listK {K : PySem.W.Frag} (e : X.K = K) : IxR X (rIxL K) := by subst e; exact ix_list
end
theorem at_int {ns : List Int} {j : Int} (i : Nat) (h : i < ns.length) (e : j = i) : atI (ns.map V.int) j = some (.int (ns.getD i 0)) := by
  subst e
  refine atI_nat ?_
  rw [List.getElem?_map, List.getElem?_eq_getElem h]
  simp [List.getD, h]
theorem getD_mem {ns : List Int} {i : Nat} (h : i < ns.length) : ns.getD i 0 ∈ ns := by
  rw [List.getD_eq_getElem?_getD, List.getElem?_eq_getElem h]
  exact List.getElem_mem h
theorem map_int_at {ns : List Int} {i : Nat} {x : V} (h : (ns.map V.int)[i]? = some x) : i < ns.length ∧ x = .int (ns.getD i 0) := by
  rw [List.getElem?_map] at h
  cases e : ns[i]? with
  | none => rw [e] at h; cases h
  | some n =>
    rw [e] at h
    refine ⟨(List.getElem?_eq_some_iff.mp e).1, ?_⟩
    rw [List.getD_eq_getElem?_getD, e]
    exact (Option.some.inj h).symm
end L2
namespace L2
open PySem PySem.Spec PyProof.Rows
section
variable {X : Cx} {pins : List (Addr × Obj)} {σ : St} {H : Hp} {s : Shared}
theorem Inv.keptL {h' : Heap} {t' : Nat} (I : Inv X pins σ H s) {m : Str → Option Value} (hl : ∀ (i : Nat) (x : Str) (v : V), X.N[i]? = some x → σ[i]? = some (some v) → Vis X.env.scope x → ∃ u, RelV v u ∧ Look X.env s.heap m x u)
    (k : ∀ b o, b ≠ X.env.locals → s.heap.get? b = some o → h'.get? b = some o) (hn : h'.Ns X.env.locals m) : Inv X pins σ H { s with heap := h', toks := t' } := by
  have B := I.base
  have ne0 : ∀ b o, X.s₀.heap.get? b = some o → b ≠ X.env.locals := fun b o q z => by
    have h1 : b < X.s₀.heap.objs.size := Heap.lt_size q
    have h2 : X.s₀.heap.objs.size ≤ X.env.locals := I.ok.above
    rw [z] at h1
    exact absurd (Nat.lt_of_lt_of_le h1 h2) (Nat.lt_irrefl _)
  refine ⟨I.ok, I.os, I.bare, ⟨fun b o q n hb hx => ?_, fun b o q n hb hx => ?_, B.free, fun b o q hx => ?_, B.tups, B.frzs, B.tbls⟩, ⟨m, hn, fun i x v e1 e2 vs => ?_⟩, fun x c q => ?_, I.free, I.freeC, fun p hp => ?_, fun b o q => ?_, I.len⟩
  · exact k _ _ (ne0 _ _ q) (B.keep b o q n hb hx)
  · obtain ⟨sl, z⟩ := B.slot b o q n hb hx
    exact ⟨sl, k _ _ (ne0 _ _ q) z⟩
  · obtain ⟨o', z⟩ := B.there b o q hx
    exact ⟨o', k _ _ (ne0 _ _ q) z⟩
  · obtain ⟨u, r, lk⟩ := hl i x v e1 e2 vs
    refine ⟨u, r, ?_⟩
    rcases lk with z | ⟨z1, c, z2, o, z3, z4⟩
    · exact .inl z
    · exact .inr ⟨z1, c, z2, o, k _ _ (I.cne _ _ z2) z3, z4⟩
  · obtain ⟨v, o, z1, z2⟩ := I.cell x c q
    exact ⟨v, o, k _ _ (I.cne _ _ q) z1, z2⟩
  · obtain ⟨z1, z2, z3, z4⟩ := I.pin p hp
    exact ⟨k _ _ z3 z1, z2, z3, z4⟩
  · refine (I.hok b o q).stay (fun c v hc r => k _ _ ?_ r) (fun _ z => z) fun _ _ z => z
    rintro rfl
    rcases hc with z | z
    · rw [← z, I.free] at q; cases q
    · rw [I.free] at z; cases z
theorem fr_all (I : Inv X pins σ H s) {m : Str → Option Value} (hm : s.heap.Ns X.env.locals m) : Fr X.base X.env.locals s.heap m := ⟨hm, I.bk, Nat.le_trans I.ok.bsz I.ok.above⟩
theorem kept_all {h' : Heap} {m : Str → Option Value} (F : Fr X.base X.env.locals h' m) (N : News X.base X.env.locals h' (allNews X.base s.heap X.env.locals)) (I : Inv X pins σ H s) : ∀ b o, b ≠ X.env.locals → s.heap.get? b = some o → h'.get? b = some o := fun b o n q => by
  cases e : X.base.get? b with
  | none => exact (N (b, o) (mem_allNews n e q)).1
  | some o' =>
    have z := I.bk b o' e
    rw [q] at z
    cases z
    exact F.keep b o e
end
section
variable {X : Cx}
def rSum (K : PySem.W.Frag) : List V → Hp → VK → Prop := fun xs H Q => ∃ (p : Addr) (ns : List Int), xs = [.ref p] ∧ SqL K H p (ns.map V.int) ∧ Q (.int ns.sum) H
theorem call_sum (hc : X.calm = true) : CallR X (.builtin "sum") (rSum X.K) := by
  intro pins s σ H xs us Q I r h
  obtain ⟨p, ns, rfl, hp, q⟩ := h
  obtain ⟨u, rfl, ru⟩ := r.one
  cases (show u = Value.ref p from ru)
  obtain ⟨its, rv, pl, _⟩ := I.list hp
  obtain ⟨m, hm, hl⟩ := I.loc
  exact LSm.sum_ints (fr_all I hm) news_all (I.ok.hd hc) pl.isList (ints_of rv) fun h' tk t' F N =>
    ⟨.int ns.sum, H, I.keptL hl (kept_all F N I) F.ns, ⟨_, rfl⟩, q⟩
def rAny (K : PySem.W.Frag) (f : List Bool → Bool) : List V → Hp → VK → Prop := fun xs H Q => ∃ (p : Addr) (bs : List Bool), xs = [.ref p] ∧ SqL K H p (bs.map V.bl) ∧ Q (.bl (f bs)) H
end
end L2
namespace L2
open PySem PySem.Spec PyProof.Rows
mutual
inductive DV (K : PySem.W.Frag) (H : Hp) : V → PyData → Prop
  | non : DV K H .non .none
  | bl (b : Bool) : DV K H (.bl b) (.bool b)
  | int (i : Int) : DV K H (.int i) (.int i)
  | str (x : Str) : DV K H (.str x) (.str x)
  | lst {a : Addr} {xs : List V} {ds : List PyData} : SqL K H a xs → DVs K H xs ds → DV K H (.ref a) (.list ds)
  | tup {a : Addr} {xs : List V} {ds : List PyData} : SqT K H a xs → DVs K H xs ds → DV K H (.ref a) (.tuple ds)
inductive DVs (K : PySem.W.Frag) (H : Hp) : List V → List PyData → Prop
  | nil : DVs K H [] []
  | cons {v : V} {vs : List V} {d : PyData} {ds : List PyData} : DV K H v d → DVs K H vs ds → DVs K H (v :: vs) (d :: ds)
end
section
variable {X : Cx} {pins : List (Addr × Obj)} {σ : St} {H : Hp} {s : Shared}
mutual
theorem dv_reads (I : Inv X pins σ H s) : ∀ {v : V} {d : PyData} {u : Value}, DV X.K H v d → RelV v u → ∃ as, Reads s.heap u d as
  | _, _, u, .non, r => by cases (show u = Value.none from r); exact ⟨_, .none⟩
  | _, _, u, .bl b, r => by cases (show u = Value.bool b from r); exact ⟨_, .bool b⟩
  | _, _, u, .int i, r => by obtain ⟨t, rfl⟩ := (show ∃ t, u = Value.int i t from r); exact ⟨_, .int i t⟩
  | _, _, u, .str x, r => by obtain ⟨t, rfl⟩ := (show ∃ t, u = Value.str x t from r); exact ⟨_, .str x t⟩
  | _, _, u, .lst (a := a) h q, r => by
    cases (show u = Value.ref a from r)
    obtain ⟨its, rv, ⟨o, n, e, c, d, f⟩, _⟩ := I.list h
    obtain ⟨as, ra⟩ := dvs_reads I q rv
    exact ⟨_, .list e c f ra⟩
  | _, _, u, .tup (a := a) h q, r => by
    cases (show u = Value.ref a from r)
    obtain ⟨its, rv, ⟨o, e, c, n, f⟩, _⟩ := I.tuple h
    obtain ⟨as, ra⟩ := dvs_reads I q rv
    exact ⟨_, .tuple e c f ra⟩
theorem dvs_reads (I : Inv X pins σ H s) : ∀ {vs : List V} {ds : List PyData} {us : List Value}, DVs X.K H vs ds → Vals vs us → ∃ as, ReadsAll s.heap us ds as
  | _, _, _, .nil, .nil => ⟨_, .nil⟩
  | _, _, _, .cons h q, .cons r rr => by
    obtain ⟨as, ra⟩ := dv_reads I h r
    obtain ⟨bs, rb⟩ := dvs_reads I q rr
    exact ⟨_, .cons ra rb⟩
end
end
section
variable {X : Cx}
def rEqD (K : PySem.W.Frag) (f : Bool → Bool) : R2 := fun x y H Q => ∃ d e, DV K H x d ∧ DV K H y e ∧ d.canLay0 = true ∧ e.canLay0 = true ∧ d.depth ≤ 64 ∧ Q (.bl (f (d.eqv e))) H
theorem op_eqD (hu : X.A.units + 64 < cLine) : OpR X (compareOp .Eq) (rEqD X.K id) := by
  intro pins s σ H x y v u Q I rx ry h
  obtain ⟨d, e, hd, he, c1, c2, dp, q⟩ := h
  obtain ⟨as, ra⟩ := dv_reads I hd rx
  obtain ⟨bs, rb⟩ := dv_reads I he ry
  exact SeqAt.compareEq_reads ra rb c1 c2 (by omega) ⟨.bl _, H, I, rfl, q⟩
theorem op_neD (hu : X.A.units + 64 < cLine) : OpR X (compareOp .NotEq) (rEqD X.K not) := by
  intro pins s σ H x y v u Q I rx ry h
  obtain ⟨d, e, hd, he, c1, c2, dp, q⟩ := h
  obtain ⟨as, ra⟩ := dv_reads I hd rx
  obtain ⟨bs, rb⟩ := dv_reads I he ry
  exact SeqAt.compareNe_reads ra rb c1 c2 (by omega) ⟨.bl _, H, I, rfl, q⟩
end
def dI (ns : List Int) : PyData := .list (ns.map PyData.int)
theorem dvs_ints {K : PySem.W.Frag} {H : Hp} : ∀ {ns : List Int}, DVs K H (ns.map V.int) (ns.map PyData.int)
  | [] => .nil
  | n :: ns => .cons (.int n) dvs_ints
theorem dv_ints {K : PySem.W.Frag} {H : Hp} {a : Addr} {ns : List Int} (h : SqL K H a (ns.map V.int)) : DV K H (.ref a) (dI ns) := .lst h dvs_ints
theorem layAll_ints : ∀ {ns : List Int}, PyData.canLayAll0 (ns.map PyData.int) = true
  | [] => rfl
  | n :: ns => by
    rw [List.map_cons]
    show (PyData.canLay0 (.int n) && PyData.canLayAll0 (ns.map PyData.int)) = true
    rw [layAll_ints]; rfl
theorem lay_ints {ns : List Int} : (dI ns).canLay0 = true := layAll_ints
theorem depthAll_ints : ∀ {ns : List Int}, PyData.depthAll (ns.map PyData.int) ≤ 1
  | [] => by decide
  | n :: ns => by
    have := depthAll_ints (ns := ns)
    rw [List.map_cons]
    show max (PyData.depth (.int n)) (PyData.depthAll (ns.map PyData.int)) ≤ 1
    have e : PyData.depth (.int n) ≤ 1 := by show _ ≤ _; simp [PyData.depth]
    omega
end L2
namespace L2
open PySem
theorem dep_list {xs : List PyData} {n : Nat} (h : PyData.depthAll xs ≤ n) : (PyData.list xs).depth ≤ n + 1 := by
  have e : (PyData.list xs).depth = PyData.depthAll xs + 1 := by first | rfl | (simp [PyData.depth]; done) | (simp [PyData.depth]; omega)
  omega
theorem dep_tup {xs : List PyData} {n : Nat} (h : PyData.depthAll xs ≤ n) : (PyData.tuple xs).depth ≤ n + 1 := by
  have e : (PyData.tuple xs).depth = PyData.depthAll xs + 1 := by first | rfl | (simp [PyData.depth]; done) | (simp [PyData.depth]; omega)
  omega
theorem dep_nil {n : Nat} : PyData.depthAll [] ≤ n := by
  have e : PyData.depthAll [] = 0 := by first | rfl | simp [PyData.depthAll]
  omega
theorem dep_cons {x : PyData} {xs : List PyData} {n : Nat} (h : x.depth ≤ n) (h' : PyData.depthAll xs ≤ n) : PyData.depthAll (x :: xs) ≤ n := by
  have e : PyData.depthAll (x :: xs) = max x.depth (PyData.depthAll xs) := by first | rfl | simp [PyData.depthAll]
  omega
theorem dep_ints {ns : List Int} : (dI ns).depth ≤ 2 := dep_list depthAll_ints
end L2
namespace L2
open PySem PySem.Spec PyProof.Rows
theorem sql_same {K : PySem.W.Frag} {H H' : Hp} {a : Addr} {xs : List V} (h : SqL K H a xs) (s : Same H H') : SqL K H' a xs := by
  rcases h with h | h
  · exact .inl (h.imp (fun z => s _ _ z) fun ⟨o, z⟩ => ⟨o, s _ _ z⟩)
  · exact .inr h
theorem same_upd {H H' : Hp} {a : Addr} {o : HO} (s : Same H H') (h : H a = none) : Same H (upd H' a o) := fun c x z => by rw [upd_ne (ne_of_none z h)]; exact s _ _ z
theorem Same.none {H H' : Hp} {a : Addr} (s : Same H H') (h : H' a = none) : H a = none := by
  cases e : H a with
  | none => rfl
  | some o => rw [s _ _ e] at h; cases h
def cutI (cs : List Int) (a b : Int) : List Int := (cs.drop (min a.toNat cs.length)).take (min b.toNat cs.length - min a.toNat cs.length)
theorem sIx_pos {n d : Nat} {a : Int} (h : 0 ≤ a) : HT.sIx n d (some a) = min a.toNat n := by
  show (if a < 0 then (a + (n : Int)).toNat else min a.toNat n) = min a.toNat n
  rw [if_neg (by omega)]
theorem cutV_int {cs : List Int} {a b : Int} (ha : 0 ≤ a) (hb : 0 ≤ b) : cutV (cs.map V.int) (some a) (some b) = (cutI cs a b).map V.int := by
  unfold cutV cutI
  rw [sIx_pos ha, sIx_pos hb, List.length_map, ← List.map_drop, ← List.map_take]
theorem cutV_take {cs : List Int} {b : Int} (hb : 0 ≤ b) : cutV (cs.map V.int) none (some b) = (cs.take b.toNat).map V.int := by
  unfold cutV
  rw [HT.sIx_none, sIx_pos hb, List.length_map, List.drop_zero, Nat.sub_zero, ← List.map_take]
  congr 1
  rw [List.take_eq_take_iff]
  omega
theorem sum_take_succ {ns : List Int} {i : Nat} (h : i < ns.length) : (ns.take (i + 1)).sum = (ns.take i).sum + ns.getD i 0 := by
  have e : ns.take (i + 1) = ns.take i ++ [ns.getD i 0] := by
    rw [List.take_add_one, List.getD_eq_getElem?_getD, List.getElem?_eq_getElem h]; rfl
  rw [e, List.sum_append]
  simp
theorem sum_mono {ns : List Int} (h : ∀ v ∈ ns, 0 ≤ v) : ∀ (i : Nat), 0 ≤ (ns.take i).sum ∧ (ns.take i).sum ≤ ns.sum := by
  induction ns with
  | nil => intro i; simp
  | cons n ns ih =>
    intro i
    have z := h n List.mem_cons_self
    cases i with
    | zero =>
      have := (ih (fun v hv => h v (List.mem_cons_of_mem _ hv)) ns.length).1
      rw [List.take_length] at this
      simp; omega
    | succ i =>
      have := ih (fun v hv => h v (List.mem_cons_of_mem _ hv)) i
      rw [List.take_succ_cons, List.sum_cons, List.sum_cons]
      omega
end L2
namespace L2
open PySem PySem.Spec PyProof.Rows
section
variable {P : Program} {w : World} {K : PySem.W.Frag} {mg : Str → Option Value} {base : Heap}
def MethIn (K : PySem.W.Frag) (C : Addr) (x qual : Str) (st : Stmt) (ps : List Str) : Prop := ∃ (f : Addr) (fd : FuncData), Meth K C x f ∧ Fun K x qual st f fd ∧ Binds K fd ps []
def OkM (P : Program) (w : World) (K : PySem.W.Frag) (mg : Str → Option Value) (base : Heap) (CX : CXT) (k : Nat) (C : Addr) (x : Str) (ps : List Str) (sp : Sp) : Prop :=
  ∃ (f : Addr) (fd : FuncData), Meth K C x f ∧ Binds K fd ps [] ∧ FnOk P w K mg base CX k f fd ps sp
def InitIn (K : PySem.W.Frag) (C : Addr) (qual : Str) (st : Stmt) (ps : List Str) : Prop := ∃ (f : Addr) (fd : FuncData), Mk K C f ∧ Fun K "__init__" qual st f fd ∧ Binds K fd ps []
def OkI (P : Program) (w : World) (K : PySem.W.Frag) (mg : Str → Option Value) (base : Heap) (CX : CXT) (k : Nat) (C : Addr) (ps : List Str) (sp : Sp) : Prop :=
  ∃ (f : Addr) (fd : FuncData), Mk K C f ∧ Binds K fd ps [] ∧ FnOk P w K mg base CX k f fd ps sp
theorem OkM.mono {CX : CXT} {j k : Nat} {C : Addr} {x : Str} {ps : List Str} {sp : Sp} (o : OkM P w K mg base CX j C x ps sp) (h : j ≤ k) : OkM P w K mg base CX k C x ps sp := by
  obtain ⟨f, fd, a, b, c⟩ := o
  exact ⟨f, fd, a, b, c.mono h⟩
end
section
variable {X : Cx} {CX : CXT} {k : Nat} {C : Addr} {ps : List Str} {sp : Sp} {E : XK} {x m : Str} {p pos apos : Pos} {e o : Expr} {es : List Expr} {ta : TE} {t : TA}
theorem pe_okI (h : OkI X.prog X.w X.K X.mg X.base CX k C ps sp) (hm : X.mg x = some (.ref C)) (hr : Room (k + 1) X.A) (hg : Gl X x) (hx : Passes CX X E) (ha : PA X (e :: es) t) (hdb : (x == ("__debug__" : Str)) = false := by decide)
    (he : starEach (e :: es) X.env = (false, eval e X.env) :: starEach es X.env := by rfl) (hpl : (backTo pos (starEach es X.env)).any (·.1) = false := by rfl) : PE X (.Call (.Name x p) (e :: es) [] pos) (tMake C sp [] E t) := by
  obtain ⟨f, fd, a, b, d⟩ := h
  exact pe_make a d hr hg hm b .nil hx ha hdb he hpl
end
end L2
namespace My
open PySem PySem.W PyProof.Rows
theorem and_half (x y : Int) : Builtin.bitAnd x y / 2 = Builtin.bitAnd (x / 2) (y / 2) ∧ Builtin.bitAnd x y % 2 = (x % 2) * (y % 2) := by
  have h := kbt_halves x y
  rcases (by omega : x % 2 = 0 ∨ x % 2 = 1) with a | a <;> rcases (by omega : y % 2 = 0 ∨ y % 2 = 1) with b | b <;>
    (rw [a, b] at h ⊢; simp at h ⊢; omega)
theorem or_half (x y : Int) : Builtin.bitOr x y / 2 = Builtin.bitOr (x / 2) (y / 2) ∧ Builtin.bitOr x y % 2 = max (x % 2) (y % 2) := by
  rw [bitOr_and, bitOr_and]
  have h := kbt_halves x y
  rcases (by omega : x % 2 = 0 ∨ x % 2 = 1) with a | a <;> rcases (by omega : y % 2 = 0 ∨ y % 2 = 1) with b | b <;>
    (rw [a, b] at h ⊢; simp at h; omega)
theorem xor_half (x y : Int) : Builtin.bitXor x y / 2 = Builtin.bitXor (x / 2) (y / 2) ∧ Builtin.bitXor x y % 2 = (x % 2 + y % 2) % 2 := by
  rw [bitXor_and, bitXor_and]
  have h := kbt_halves x y
  rcases (by omega : x % 2 = 0 ∨ x % 2 = 1) with a | a <;> rcases (by omega : y % 2 = 0 ∨ y % 2 = 1) with b | b <;>
    (rw [a, b] at h ⊢; simp at h; omega)
theorem div_succ (x : Int) (k : Nat) : x / 2 ^ (k + 1) = x / 2 / 2 ^ k := by
  rw [Int.ediv_ediv_of_nonneg (by decide), Int.pow_succ, Int.mul_comm]
theorem and_bit (k : Nat) : ∀ x y : Int, Builtin.bitAnd x y / 2 ^ k % 2 = (x / 2 ^ k % 2) * (y / 2 ^ k % 2) := by
  induction k with
  | zero => intro x y; simpa using (and_half x y).2
  | succ k ih => intro x y; rw [div_succ, div_succ, div_succ, (and_half x y).1, ih]
theorem or_bit (k : Nat) : ∀ x y : Int, Builtin.bitOr x y / 2 ^ k % 2 = max (x / 2 ^ k % 2) (y / 2 ^ k % 2) := by
  induction k with
  | zero => intro x y; simpa using (or_half x y).2
  | succ k ih => intro x y; rw [div_succ, div_succ, div_succ, (or_half x y).1, ih]
theorem xor_bit (k : Nat) : ∀ x y : Int, Builtin.bitXor x y / 2 ^ k % 2 = (x / 2 ^ k % 2 + y / 2 ^ k % 2) % 2 := by
  induction k with
  | zero => intro x y; simpa using (xor_half x y).2
  | succ k ih => intro x y; rw [div_succ, div_succ, div_succ, (xor_half x y).1, ih]
def In (n : Nat) (x : Int) : Prop := -(2 ^ n) ≤ x ∧ x < 2 ^ n
theorem in_half {n : Nat} {x : Int} : In (n + 1) x ↔ In n (x / 2) := by
  unfold In
  rw [Int.pow_succ]
  constructor
  · intro h; omega
  · intro h; omega
theorem in_zero {x : Int} (h : In 0 x) : x = 0 ∨ x = -1 := by
  unfold In at h; omega
theorem and_in (n : Nat) : ∀ x y : Int, In n x → In n y → In n (Builtin.bitAnd x y) := by
  induction n with
  | zero =>
    intro x y hx hy
    rcases in_zero hx with a | a <;> rcases in_zero hy with b | b <;> (subst a; subst b; unfold In; decide)
  | succ n ih => intro x y hx hy; rw [in_half] at *; rw [(and_half x y).1]; exact ih _ _ hx hy
theorem or_in (n : Nat) : ∀ x y : Int, In n x → In n y → In n (Builtin.bitOr x y) := by
  induction n with
  | zero =>
    intro x y hx hy
    rcases in_zero hx with a | a <;> rcases in_zero hy with b | b <;> (subst a; subst b; unfold In; decide)
  | succ n ih => intro x y hx hy; rw [in_half] at *; rw [(or_half x y).1]; exact ih _ _ hx hy
theorem xor_in (n : Nat) : ∀ x y : Int, In n x → In n y → In n (Builtin.bitXor x y) := by
  induction n with
  | zero =>
    intro x y hx hy
    rcases in_zero hx with a | a <;> rcases in_zero hy with b | b <;> (subst a; subst b; unfold In; decide)
  | succ n ih => intro x y hx hy; rw [in_half] at *; rw [(xor_half x y).1]; exact ih _ _ hx hy
end My
namespace My
open PySem PySem.W PyProof.Rows
def kept (n : Int) : Int := Int.fmod (n + 9223372036854775808) 18446744073709551616 - 9223372036854775808
theorem kept_e (n : Int) : kept n = (n + 9223372036854775808) % 18446744073709551616 - 9223372036854775808 := by
  unfold kept; rw [Int.fmod_eq_emod_of_nonneg _ (by decide)]
def Kin (x : Int) : Prop := -9223372036854775808 ≤ x ∧ x ≤ 9223372036854775807
theorem kept_self {n : Int} (h : Kin n) : kept n = n := by unfold Kin at h; rw [kept_e]; omega
structure Free (op : Int → Int → Int) : Prop where
  cl : ∀ a b, Kin a → Kin b → Kin (op a b)
  cm : ∀ a b, Kin a → Kin b → op a b = op b a
  as : ∀ a b c, Kin a → Kin b → Kin c → op (op a b) c = op a (op b c)
def fold1 (op : Int → Int → Int) : List Int → Int
  | [] => 0
  | x :: xs => xs.foldl op x
end My
namespace L2
open PySem PySem.Spec PyProof.Rows
def DispX (P : Program) (w : World) (K : PySem.W.Frag) (mg : Str → Option Value) (base : Heap) (CX : CXT) (k : Nat) (m : Str) (C : Addr) (sp : Sp) : Prop := Cls K C ∧ ∃ (f : Addr) (fd : FuncData) (ps : List Str), Meth K C m f ∧ FnOk P w K mg base CX k f fd ps sp ∧ Binds K fd ps []
theorem DispX.mono {P : Program} {w : World} {K : PySem.W.Frag} {mg : Str → Option Value} {base : Heap} {CX : CXT} {j k : Nat} {m : Str} {C : Addr} {sp : Sp} (d : DispX P w K mg base CX j m C sp) (h : j ≤ k) : DispX P w K mg base CX k m C sp := by
  obtain ⟨c, f, fd, ps, a, b, e⟩ := d
  exact ⟨c, f, fd, ps, a, b.mono h, e⟩
def tMethX (Ds : Addr → Sp → Prop) (m : Str) (E : XK) (ta : TE) (t : TA) : TE := fun σ H Q => ta σ H fun x H1 => ∃ a C dx fs sp, x = .ref a ∧ H1 a = some (.ins C dx fs) ∧ Ds C sp ∧ fs.lookup m = none ∧ t σ H1 fun vs H2 => sp (x :: vs) H2 Q E
section
variable {X : Cx} {σ₀ : St}
theorem pe1_methX {CX : CXT} {k : Nat} {E : XK} {m : Str} {apos pos : Pos} {o e : Expr} {es : List Expr} {ta : TE} {t : TA} {pl : Sem Bool} (hr : Room k X.A) (hx : Passes1 CX X σ₀ E) (he : PE X o ta) (ha : PA X (e :: es) t)
    (hst : starEach (e :: es) X.env = (false, eval e X.env) :: starEach es X.env := by rfl) (hpl : (backTo pos (starEach es X.env)).any (·.1) = false := by rfl)
    (ht : eval (.Call (.Attribute o m apos) (e :: es) [] pos) X.env = (do
      let ov ← eval o X.env
      standAt apos.atName
      let (f, first) ← holding [ov] (getMethod ov m pl)
      callWith pos f first (backTo pos (starEach (e :: es) X.env)) (backToKw pos (keywordEach [] X.env))) := by rfl) :
    PE1 X σ₀ (.Call (.Attribute o m apos) (e :: es) [] pos) (tMethX (DispX X.prog X.w X.K X.mg X.base CX k m) m E ta t) := by
  intro pins s H Q I h
  refine PySem.W.methodCall_KW (pl := pl) (thn (he pins s σ₀ H _ I h) fun u s1 ⟨x, H1, I1, rx, a, C, dx, fs, sp, ex, ea, dp, l, q⟩ => ?_) ht
  subst ex
  obtain rfl : u = Value.ref a := rx
  obtain ⟨cl, f, fd, ps, hm, F, hb⟩ := dp
  refine getmeth_ok I1 ea cl hm l ?_
  refine PySem.W.callWith_K (first := [.ref a]) (h₀ := X.base) I.ok.mod.kin hm.kp (thn (ha pos pins s1 σ₀ H1 _ I1 q) fun us s2 ⟨vs, H2, I2, r, q2⟩ => ⟨I2.kIn, ?_⟩) hst hpl
  exact run_fn1 (us := .ref a :: us) (vs := .ref a :: vs) (dvs := []) (ds := []) F hr hb .nil hx I2 (.cons rfl r) (by simpa using q2)
theorem pe_methX {CX : CXT} {k : Nat} {E : XK} {m : Str} {apos pos : Pos} {o e : Expr} {es : List Expr} {ta : TE} {t : TA} {pl : Sem Bool} (hr : Room k X.A) (hx : Passes CX X E) (he : PE X o ta) (ha : PA X (e :: es) t)
    (hst : starEach (e :: es) X.env = (false, eval e X.env) :: starEach es X.env := by rfl) (hpl : (backTo pos (starEach es X.env)).any (·.1) = false := by rfl)
    (ht : eval (.Call (.Attribute o m apos) (e :: es) [] pos) X.env = (do
      let ov ← eval o X.env
      standAt apos.atName
      let (f, first) ← holding [ov] (getMethod ov m pl)
      callWith pos f first (backTo pos (starEach (e :: es) X.env)) (backToKw pos (keywordEach [] X.env))) := by rfl) :
    PE X (.Call (.Attribute o m apos) (e :: es) [] pos) (tMethX (DispX X.prog X.w X.K X.mg X.base CX k m) m E ta t) :=
  PE1.all fun _ => pe1_methX hr hx.one he ha hst hpl ht
end
end L2
namespace FM
open PySem L2
abbrev Kin (x : Int) : Prop := -9223372036854775808 ≤ x ∧ x ≤ 9223372036854775807
def kept (n : Int) : Int := (n + 9223372036854775808) % (2 * 9223372036854775808) - 9223372036854775808
def signs : List Str := ["+", "-", "*", "/", "rest", "least", "most", "<", "=", "&", "|", "^"]
def doneR (sg : Str) (a b : Int) : Option Int :=
  if sg = "+" then some (kept (a + b)) else if sg = "-" then some (kept (a - b)) else if sg = "*" then some (kept (a * b))
  else if sg = "/" then (if b = 0 then none else some (kept (a.fdiv b))) else if sg = "rest" then (if b = 0 then none else some (a.fmod b))
  else if sg = "least" then some (if b < a then b else a) else if sg = "most" then some (if b > a then b else a)
  else if sg = "<" then some (if a < b then 1 else 0) else if sg = "=" then some (if a = b then 1 else 0)
  else if sg = "&" then some (Builtin.bitAnd a b) else if sg = "|" then some (Builtin.bitOr a b) else some (Builtin.bitXor a b)
def edges : List Int := [-9223372036854775808, 9223372036854775807, -1, 4294967296, -9223372036854775807, 3037000500]
def keptBy (c : Int) : Int :=
  if c % 4 = 0 then c / 4 % 7 - 3 else if c % 4 = 1 then edges.getD (c / 4 % 6).toNat 0 else if c % 4 = 2 then c / 4 * 48271 % 2001 - 1000
  else c / 4 * 2862933555777941757 % 18446744073709551616 - 9223372036854775808
theorem edge_at : ∀ k : Nat, k < 6 → (edges.map V.int)[k]? = some (V.int (edges.getD k 0)) ∧ Kin (edges.getD k 0) := by decide
theorem keptBy_in (c : Int) : Kin (keptBy c) := by
  unfold keptBy
  split
  · omega
  · split
    · exact (edge_at _ (by omega)).2
    · split <;> omega
def bitDue (sg : Str) (a b : Int) : Int := if sg = "&" then a * b else if sg = "|" then (if b > a then b else a) else (a + b) % 2
theorem pw_pos (n : Nat) : (0 : Int) < 2 ^ n := by
  induction n with
  | zero => decide
  | succ n ih => rw [Int.pow_succ]; omega
theorem fbit (x : Int) (n : Nat) : x.fdiv (2 ^ n) % 2 = x / 2 ^ n % 2 := by rw [Int.fdiv_eq_ediv_of_nonneg _ (Int.le_of_lt (pw_pos n))]
theorem in63 {x : Int} : Kin x ↔ My.In 63 x := by
  unfold Kin My.In
  have e : (2 : Int) ^ 63 = 9223372036854775808 := by decide
  rw [e]; omega
theorem bits_ok {sg : Str} (hs : sg = "&" ∨ sg = "|" ∨ sg = "^") {a b : Int} (ha : Kin a) (hb : Kin b) : ∃ r, doneR sg a b = some r ∧ Kin r ∧ ∀ n : Nat, r.fdiv (2 ^ n) % 2 = bitDue sg (a.fdiv (2 ^ n) % 2) (b.fdiv (2 ^ n) % 2) := by
  rcases hs with rfl | rfl | rfl
  · exact ⟨_, rfl, in63.mpr (My.and_in 63 a b (in63.mp ha) (in63.mp hb)), fun n => by rw [fbit, fbit, fbit, My.and_bit]; rfl⟩
  · refine ⟨_, rfl, in63.mpr (My.or_in 63 a b (in63.mp ha) (in63.mp hb)), fun n => ?_⟩
    rw [fbit, fbit, fbit, My.or_bit]
    show max _ _ = if _ > _ then _ else _
    split <;> omega
  · exact ⟨_, rfl, in63.mpr (My.xor_in 63 a b (in63.mp ha) (in63.mp hb)), fun n => by rw [fbit, fbit, fbit, My.xor_bit]; rfl⟩
theorem kept_in (n : Int) : Kin (kept n) := by unfold kept; omega
theorem done_in {sg : Str} (hs : sg ∈ signs) {a b r : Int} (ha : Kin a) (hb : Kin b) (h : doneR sg a b = some r) : Kin r := by
  simp only [signs, List.mem_cons, List.not_mem_nil, or_false] at hs
  have bit : (sg = "&" ∨ sg = "|" ∨ sg = "^") → Kin r := fun z => by
    obtain ⟨r', e, k, _⟩ := bits_ok z ha hb
    rw [e] at h; cases h; exact k
  rcases hs with rfl | rfl | rfl | rfl | rfl | rfl | rfl | rfl | rfl | rfl | rfl | rfl
  · cases h; exact kept_in _
  · cases h; exact kept_in _
  · cases h; exact kept_in _
  · have h' : (if b = 0 then none else some (kept (a.fdiv b))) = some r := h
    split at h'
    · cases h'
    · cases h'; exact kept_in _
  · have h' : (if b = 0 then none else some (a.fmod b)) = some r := h
    split at h'
    · cases h'
    · rename_i z
      cases h'
      rcases (by omega : 0 < b ∨ b < 0) with p | p
      · have h1 := Int.fmod_nonneg_of_pos a p
        have h2 := Int.fmod_lt_of_pos a p
        omega
      · have h1 : a.fmod b ≤ 0 := by
          have e := Int.neg_fmod_neg a b
          have h3 := Int.fmod_nonneg_of_pos (-a) (show 0 < -b by omega)
          omega
        have h2 : b < a.fmod b := by
          have e := Int.neg_fmod_neg a b
          have h3 := Int.fmod_lt_of_pos (-a) (show 0 < -b by omega)
          omega
        omega
  · have h' : some (if b < a then b else a) = some r := h
    cases h'; split <;> omega
  · have h' : some (if b > a then b else a) = some r := h
    cases h'; split <;> omega
  · have h' : some (if a < b then (1 : Int) else 0) = some r := h
    cases h'; split <;> omega
  · have h' : some (if a = b then (1 : Int) else 0) = some r := h
    cases h'; split <;> omega
  · exact bit (.inl rfl)
  · exact bit (.inr (.inl rfl))
  · exact bit (.inr (.inr rfl))
inductive Fm | num (n : Int) | here | cell (r : Int) | shi (r by' other : Int) | loc (at' : Int) | at' (r : Int) (p : Fm) | pair (sg : Str) (l r : Fm) | cho (t l r : Fm)
inductive Res | ok (n : Int) | nought | outside
  deriving DecidableEq
structure SpotD where
  lens : List Int
  cells : List Int
  place : Int
  own : List Int
structure Cs where
  num : Addr
  here : Addr
  cell : Addr
  shi : Addr
  loc : Addr
  at' : Addr
  pair : Addr
  cho : Addr
  spot : Addr
def FormAt (c : Cs) (H : Hp) : Fm → Addr → Prop
  | .num n, x => ∃ dx, H x = some (.ins c.num dx [("number", .int n)])
  | .here, x => ∃ dx, H x = some (.ins c.here dx [])
  | .cell r, x => ∃ dx, H x = some (.ins c.cell dx [("row", .int r)])
  | .shi r b o, x => ∃ dx, H x = some (.ins c.shi dx [("row", .int r), ("by", .int b), ("other", .int o)])
  | .loc a, x => ∃ dx, H x = some (.ins c.loc dx [("at", .int a)])
  | .at' r p, x => ∃ dx y, H x = some (.ins c.at' dx [("row", .int r), ("place", .ref y)]) ∧ FormAt c H p y
  | .pair sg l r, x => ∃ dx y z, H x = some (.ins c.pair dx [("sign", .str sg), ("left", .ref y), ("right", .ref z)]) ∧ FormAt c H l y ∧ FormAt c H r z
  | .cho t l r, x => ∃ dx u y z, H x = some (.ins c.cho dx [("test", .ref u), ("left", .ref y), ("right", .ref z)]) ∧ FormAt c H t u ∧ FormAt c H l y ∧ FormAt c H r z
theorem FormAt.same {c : Cs} {H H' : Hp} (s : Same H H') : ∀ {F : Fm} {x : Addr}, FormAt c H F x → FormAt c H' F x
  | .num _, _, ⟨dx, h⟩ => ⟨dx, s _ _ h⟩
  | .here, _, ⟨dx, h⟩ => ⟨dx, s _ _ h⟩
  | .cell _, _, ⟨dx, h⟩ => ⟨dx, s _ _ h⟩
  | .shi _ _ _, _, ⟨dx, h⟩ => ⟨dx, s _ _ h⟩
  | .loc _, _, ⟨dx, h⟩ => ⟨dx, s _ _ h⟩
  | .at' _ _, _, ⟨dx, y, h, p⟩ => ⟨dx, y, s _ _ h, FormAt.same s p⟩
  | .pair _ _ _, _, ⟨dx, y, z, h, p, q⟩ => ⟨dx, y, z, s _ _ h, FormAt.same s p, FormAt.same s q⟩
  | .cho _ _ _, _, ⟨dx, u, y, z, h, o, p, q⟩ => ⟨dx, u, y, z, s _ _ h, FormAt.same s o, FormAt.same s p, FormAt.same s q⟩
structure SpotAt (c : Cs) (K : PySem.W.Frag) (H : Hp) (x : Addr) (S : SpotD) : Prop where
  ex : ∃ dx l f e o, H x = some (.ins c.spot dx [("lengths", .ref l), ("functions", .ref f), ("cells", .ref e), ("place", .int S.place), ("own", .ref o)]) ∧ SqL K H l (S.lens.map V.int) ∧ SqL K H e (S.cells.map V.int) ∧ SqL K H o (S.own.map V.int)
theorem SpotAt.same {c : Cs} {K : PySem.W.Frag} {H H' : Hp} {x : Addr} {S : SpotD} (s : Same H H') (h : SpotAt c K H x S) : SpotAt c K H' x S := by
  obtain ⟨dx, l, f, e, o, h1, h2, h3, h4⟩ := h.ex
  exact ⟨dx, l, f, e, o, s _ _ h1, sql_same h2 s, sql_same h3 s, sql_same h4 s⟩
def SpotD.start (S : SpotD) (r : Int) : Int := (S.lens.take r.toNat).sum
def SpotD.len (S : SpotD) (r : Int) : Int := S.lens.getD r.toNat 0
def SpotD.cellAt (S : SpotD) (r q : Int) : Int := S.cells.getD (S.start r + q).toNat 0
structure SpotOk (S : SpotD) : Prop where
  ln : ∀ v ∈ S.lens, 0 ≤ v
  tot : (S.cells.length : Int) = S.lens.sum
  ck : ∀ v ∈ S.cells, Kin v
  ok' : ∀ v ∈ S.own, Kin v
  pl : Kin S.place
def SpotD.has (S : SpotD) (r : Int) : Prop := 0 ≤ r ∧ r.toNat < S.lens.length
theorem cell_in {S : SpotD} (o : SpotOk S) {r q : Int} (h : S.has r) (h0 : 0 ≤ q) (h1 : q < S.len r) : 0 ≤ S.start r + q ∧ S.start r + q < S.cells.length ∧ Kin (S.cellAt r q) := by
  have m := sum_mono o.ln r.toNat
  have m2 := sum_mono o.ln (r.toNat + 1)
  have e := sum_take_succ h.2
  have t := o.tot
  unfold SpotD.start SpotD.len at *
  have a : 0 ≤ (S.lens.take r.toNat).sum + q := by omega
  have b : (S.lens.take r.toNat).sum + q < S.cells.length := by omega
  refine ⟨a, b, ?_⟩
  unfold SpotD.cellAt SpotD.start
  exact o.ck _ (L2.getD_mem (by omega))
def ev (S : SpotD) : Fm → Res
  | .num n => .ok n
  | .here => .ok S.place
  | .cell r => if S.len r = 1 then .ok (S.cellAt r 0) else .ok (S.cellAt r S.place)
  | .shi r b o => if 0 ≤ S.place + b ∧ S.place + b < S.len r then .ok (S.cellAt r (S.place + b)) else .ok o
  | .loc a => .ok (S.own.getD a.toNat 0)
  | .at' r p => match ev S p with
    | .ok q => if 0 ≤ q ∧ q < S.len r then .ok (S.cellAt r q) else .outside
    | e => e
  | .pair sg l r => match ev S l with
    | .ok a => (match ev S r with
      | .ok b => (match doneR sg a b with
        | some n => .ok n
        | none => .nought)
      | e => e)
    | e => e
  | .cho t l r => match ev S t with
    | .ok a => if a ≠ 0 then ev S l else ev S r
    | e => e
def WF (S : SpotD) : Fm → Prop
  | .num n => Kin n
  | .here => True
  | .cell r => S.has r ∧ 1 ≤ S.len r ∧ (S.len r ≠ 1 → 0 ≤ S.place ∧ S.place < S.len r)
  | .shi r _ o => S.has r ∧ Kin o
  | .loc a => 0 ≤ a ∧ a.toNat < S.own.length
  | .at' r p => S.has r ∧ WF S p
  | .pair sg l r => sg ∈ signs ∧ WF S l ∧ WF S r
  | .cho t l r => WF S t ∧ WF S l ∧ WF S r
theorem ev_kin {S : SpotD} (o : SpotOk S) : ∀ {F : Fm} {n : Int}, WF S F → ev S F = .ok n → Kin n
  | .num _, _, h, e => by cases e; exact h
  | .here, _, _, e => by cases e; exact o.pl
  | .cell r, n, h, e => by
    unfold ev at e
    split at e
    · rename_i z; cases e; exact (cell_in o h.1 (by omega) (by omega)).2.2
    · rename_i z; cases e; exact (cell_in o h.1 (h.2.2 z).1 (h.2.2 z).2).2.2
  | .shi r b o', n, h, e => by
    unfold ev at e
    split at e
    · rename_i z; cases e; exact (cell_in o h.1 z.1 z.2).2.2
    · cases e; exact h.2
  | .loc a, n, h, e => by cases e; exact o.ok' _ (L2.getD_mem h.2)
  | .at' r p, n, h, e => by
    unfold ev at e
    split at e
    · rename_i q hq
      split at e
      · rename_i z; cases e; exact (cell_in o h.1 z.1 z.2).2.2
      · cases e
    · rename_i e' hq; exact absurd e (hq n)
  | .pair sg l r, n, h, e => by
    unfold ev at e
    split at e
    · rename_i a ha
      split at e
      · rename_i b hb
        split at e
        · rename_i m hm; cases e; exact done_in h.1 (ev_kin o h.2.1 ha) (ev_kin o h.2.2 hb) hm
        · cases e
      · rename_i e' hq; exact absurd e (hq n)
    · rename_i e' hq; exact absurd e (hq n)
  | .cho t l r, n, h, e => by
    unfold ev at e
    split at e
    · split at e
      · exact ev_kin o h.2.1 e
      · exact ev_kin o h.2.2 e
    · rename_i e' hq; exact absurd e (hq n)
def Out (CN OU : Addr) (r : Res) (H : Hp) (Q : VK) (E : XK) : Prop := ∀ H', Same H H' → match r with
  | .ok n => Q (.int n) H'
  | .nought => E (.ref CN) none H'
  | .outside => E (.ref OU) none H'
def Worth (P : Program) (w : World) (K : PySem.W.Frag) (mg : Str → Option Value) (base : Heap) (c : Cs) (CN OU : Addr) (k : Nat) (F : Fm) : Prop :=
  ∀ (x : Addr) (H : Hp), FormAt c H F x → ∃ C dx fs sp, H x = some (.ins C dx fs) ∧ DispX P w K mg base (CXe P w base) k "worth" C sp ∧ fs.lookup ("worth" : Str) = none ∧
    ∀ (s : Addr) (S : SpotD) (Q : VK) (E : XK), SpotAt c K H s S → SpotOk S → WF S F → Out CN OU (ev S F) H Q E → sp [.ref x, .ref s] H Q E
theorem Worth.mono {P : Program} {w : World} {K : PySem.W.Frag} {mg : Str → Option Value} {base : Heap} {c : Cs} {CN OU : Addr} {j k : Nat} {F : Fm} (h : Worth P w K mg base c CN OU j F) (l : j ≤ k) : Worth P w K mg base c CN OU k F := fun x H q => by
  obtain ⟨C, dx, fs, sp, a, b, d, e⟩ := h x H q
  exact ⟨C, dx, fs, sp, a, b.mono l, d, e⟩
theorem Out.same {CN OU : Addr} {r : Res} {H H' : Hp} {Q : VK} {E : XK} (o : Out CN OU r H Q E) (s : Same H H') : Out CN OU r H' Q E := fun H2 s2 => o H2 (s.trans s2)
end FM
namespace L2
open PySem PySem.Spec PyProof.Rows
theorem leaving_any {M : Model} {A : Around} {E : Value → Shared → Prop} {s : Shared} {base : Heap} {env : Env} {outer : List Env} {L e : Addr} {cls a0 x : Value} {Q : Unit → Shared → Prop}
    (hfr : A.frames = some (env :: outer)) (hl : s.heap.FunFrames base (env :: outer)) (hf : env.frame = some L) (ht : s.heap.TracedAtW base e cls a0 x) (hkb : base.StaysIn s.heap) (hen : base.get? e = none)
    (h : ∀ h', Heap.LeftW base (env :: outer) e cls a0 s.heap h' → Q () { s with heap := h' }) : wpAny M A (leaving env (.ref e)) Q E s := by
  by_cases z : x = rawInt L
  · subst z
    unfold leaving
    refine wpAny_bind (wpAny_noteFrame_againW hf ht ?_)
    exact wpAny_landsW (L := L) ⟨hkb, hen, hl, ht⟩ fun h' k1 k2 => h h' ⟨k1.1, k1.2.2.1, k1.2.2.2, k2⟩
  · obtain ⟨oe, vs, T, oT, ts, he, ⟨hc, h0⟩, hd, h1, hnT, hTe, hT, hdT, h3⟩ := ht
    subst hc
    unfold leaving noteFrame
    simp only [hf]
    refine wpAny_bind (wpAny_bind (wpAny_field he hd h1 ?_))
    rw [if_pos (show (Value.ref T != Value.none) = true by simp)]
    refine wpAny_bind (wpAny_field hT hdT h3 ?_)
    rw [if_neg (show ¬ ((x == rawInt L) = true) by simpa using z)]
    refine wpAny_bind (wpAny_setField hT hdT (Array.getElem?_eq_some_iff.mp h3).1 ?_)
    have oth : ∀ b, b ≠ T → (s.heap.update T (Obj.mapFields (·.setIfInBounds 3 Value.none))).get? b = s.heap.get? b := fun b hb => Heap.get?_update_other _ _ (Ne.symm hb)
    have nf : ∀ b o, s.heap.get? b = some o → (∀ vs, o.data ≠ .fields vs) → b ≠ T := fun b o hb hn q => by
      subst q
      rw [hT] at hb; cases hb
      exact hn ts hdT
    refine wpAny_newEntryW hfr (hl.of_keeps fun b o hb hn => ⟨o, (oth b (nf b o hb hn)).trans hb, rfl⟩) hf ((oth e (Ne.symm hTe)).trans he) (fun b o hb => (oth b fun q => by rw [q, hnT] at hb; cases hb).trans (hkb b o hb)) hen hd (Array.getElem?_eq_some_iff.mp h1).1 h0 fun h' ⟨x1, x2, x3, x4⟩ => ?_
    exact h h' ⟨x1, x2, x3, fun b o hb hn => x4 b o ((oth b (nf b o hb hn)).trans hb) hn⟩
structure Air (X : Cx) (H : Hp) (h : Heap) (e : Addr) (cls : Value) : Prop where
  be : X.base.get? e = none
  se : X.s₀.heap.get? e = none
  fe : H e = none
  tr : ∃ oe vs T oT ts x, h.get? e = some oe ∧ oe.cls = cls ∧ oe.data = .fields vs ∧ vs[1]? = some (.ref T) ∧ T ≠ e ∧ h.get? T = some oT ∧ oT.data = .fields ts ∧ ts[3]? = some x ∧ X.base.get? T = none ∧ X.s₀.heap.get? T = none ∧ H T = none
section
variable {X : Cx} {pins : List (Addr × Obj)} {σ : St} {H : Hp} {s : Shared} {e : Addr} {cls : Value}
theorem lv_air {Q : Unit → Shared → Prop} {E : Value → Shared → Prop} (I : Inv X pins σ H s) (hst : X.stack = X.env :: X.outer) (hf : X.env.frame = some X.env.locals) (hex : X.ex = []) (a : Air X H s.heap e cls)
    (hQ : ∀ h', Un X.fs [] X.H₀ H X.s₀.heap h' → HOk X.prog X.w H h' → Fly X.base X.outer H X.s₀.heap h' e cls → Q () { s with heap := h' }) :
    wpAny (model X.prog X.w) X.A (leaving X.env (.ref e)) Q E s := by
  obtain ⟨y3, y4, y5, oe, ws, T, oT, ts, x, t1, t2, t3, t4, t6, t7, t8, t9, t10, t11, t12⟩ := a
  have hfs := I.stack
  rw [hst] at hfs
  have hfr : X.A.frames = some (X.env :: X.outer) := by rw [← hst]; exact I.ok.frames
  have fbase : ∀ b ∈ frs (X.env :: X.outer), X.base.get? b = none := fun b hb => (hfs.mem hb).1
  have fdat : ∀ b ∈ frs (X.env :: X.outer), ∃ o, s.heap.get? b = some o ∧ ∀ vs, o.data ≠ .fields vs := fun b hb => (hfs.mem hb).2
  have funt : ∀ b ∈ frs (X.env :: X.outer), H b = none := fun b hb => I.stkFree b (by rw [hst]; exact hb)
  have bget : ∀ b o, b ∉ e :: T :: frs (X.env :: X.outer) → s.heap.get? b = some o → (PySem.W.hideAll s.heap (e :: T :: frs (X.env :: X.outer))).get? b = some o := fun b o n q => PySem.W.hideAll_get _ q n
  have bof : ∀ b o, (PySem.W.hideAll s.heap (e :: T :: frs (X.env :: X.outer))).get? b = some o → s.heap.get? b = some o := fun b o q => PySem.W.of_hideAll _ q
  have bno : ∀ b ∈ e :: T :: frs (X.env :: X.outer), (PySem.W.hideAll s.heap (e :: T :: frs (X.env :: X.outer))).get? b = none := fun b hb => PySem.W.hideAll_none _ hb
  have sz : 1 < ws.size := (Array.getElem?_eq_some_iff.mp t4).1
  refine leaving_any (base := PySem.W.hideAll s.heap (e :: T :: frs (X.env :: X.outer))) (cls := cls) (a0 := ws[0]) (x := x) hfr (frames_over hfs fun b hb => bno b (by simp [hb])) hf
    ⟨oe, ws, T, oT, ts, t1, ⟨t2, by simp⟩, t3, t4, bno T (by simp), t6, t7, t8, t9⟩ (fun b o q => bof b o q) (bno e (by simp)) fun h' hL => ?_
  obtain ⟨k1, k2, k3, k4⟩ := hL
  have neL : ∀ b o, X.s₀.heap.get? b = some o → b ≠ X.env.locals := fun b o q => Nat.ne_of_lt (Nat.lt_of_lt_of_le (Heap.lt_size q) I.ok.above)
  have inS : ∀ b, b ∈ frs (X.env :: X.outer) → b = X.env.locals ∨ b ∈ X.fs := fun b hb => by
    rcases List.mem_cons.mp (I.stkSub b (by rw [hst]; exact hb)) with z | z
    · exact .inl z
    · exact .inr z
  have keep : ∀ b o, b ∉ frs (X.env :: X.outer) → b ≠ e → b ≠ T → s.heap.get? b = some o → h'.get? b = some o := fun b o n n1 n2 q => k1 b o (bget b o (by simp [n, n1, n2]) q)
  have slot : ∀ b o, b ∈ frs (X.env :: X.outer) → s.heap.get? b = some o → ∃ sl, h'.get? b = some { o with slots := sl } := fun b o hb q => by
    obtain ⟨o', q', nf⟩ := fdat b hb
    rw [q] at q'; cases q'
    exact k4 b o q nf
  have old : ∀ b o, X.s₀.heap.get? b = some o → b ≠ e ∧ b ≠ T := fun b o q => ⟨fun z => (by rw [z, y4] at q; cases q), fun z => (by rw [z, t11] at q; cases q)⟩
  have trk : ∀ b o, H b = some o → b ∉ frs (X.env :: X.outer) ∧ b ≠ e ∧ b ≠ T := fun b o q => ⟨fun hb => (by rw [funt b hb] at q; cases q), fun z => (by rw [z, y5] at q; cases q), fun z => (by rw [z, t12] at q; cases q)⟩
  have hx0 : ∀ b, b ∉ X.ex := fun b => by rw [hex]; simp
  refine hQ h' ⟨fun b o q n hb _ => ?_, fun b o q n hb _ => ?_, fun b o q n _ => ?_, fun b o q _ => ?_, fun b xs q => I.base.tups b xs q, fun b o x q => I.base.frzs b o x q, fun b ps q => I.base.tbls b ps q⟩ (fun b o q => ?_) ⟨fun b o q => ?_, ?_, y3, y4, y5, ?_⟩
  · have nf : b ∉ frs (X.env :: X.outer) := fun z => by
      rcases inS b z with z | z
      · exact neL b o q z
      · exact hb z
    exact keep b o nf (old b o q).1 (old b o q).2 (I.base.keep b o q n hb (hx0 b))
  · obtain ⟨sl, q1⟩ := I.base.slot b o q n hb (hx0 b)
    obtain ⟨sl', q3⟩ := slot b _ (mem_frs_tail hf hb) q1
    exact ⟨sl', q3⟩
  · exact I.base.free b o q n (hx0 b)
  · obtain ⟨o', q1⟩ := I.base.there b o q (hx0 b)
    by_cases hb : b ∈ frs (X.env :: X.outer)
    · obtain ⟨sl, q3⟩ := slot b o' hb q1
      exact ⟨_, q3⟩
    · exact ⟨_, keep b o' hb (old b o q).1 (old b o q).2 q1⟩
  · exact (I.hok b o q).stay (fun c v hc r => by
      have z : c ∉ frs (X.env :: X.outer) ∧ c ≠ e ∧ c ≠ T := by
        rcases hc with rfl | hc
        · exact trk _ _ q
        · exact trk _ _ hc
      exact keep c v z.1 z.2.1 z.2.2 r) (fun _ z => z) fun _ _ z => z
  · exact keep b o (fun z => by rw [fbase b z] at q; cases q) (fun z => by rw [z, y3] at q; cases q) (fun z => by rw [z, t10] at q; cases q) (I.bk b o q)
  · obtain ⟨_, _, k2⟩ := frames_over k2 (base' := X.base) fun b hb => fbase b hb
    exact k2
  · obtain ⟨oe', ws', T', oT', ts', r1, r2, r3, r4, r5, r6, r7, r8, r9⟩ := k3
    by_cases hT : T' = T
    · subst hT
      exact ⟨oe', ws', T', oT', ts', r1, r2.1, r3, r4, r6, r7, r8, r9, t10, t11, t12⟩
    · have tf : T' ∉ frs (X.env :: X.outer) := fun z => by
        obtain ⟨_, o', q', nf⟩ := k2.mem z
        rw [r7] at q'; cases q'
        exact nf ts' r8
      have tn : s.heap.get? T' = none := by
        cases r : s.heap.get? T' with
        | none => rfl
        | some o => rw [bget T' o (by simp [tf, r6, hT]) r] at r5; cases r5
      refine ⟨oe', ws', T', oT', ts', r1, r2.1, r3, r4, r6, r7, r8, r9, ?_, ?_, ?_⟩
      · cases r : X.base.get? T' with
        | none => rfl
        | some o => have := I.bk T' o r; rw [tn] at this; cases this
      · cases r : X.s₀.heap.get? T' with
        | none => rfl
        | some o =>
          obtain ⟨o', z⟩ := I.base.there T' o r (hx0 _)
          rw [tn] at z; cases z
      · cases r : H T' with
        | none => rfl
        | some o => obtain ⟨ob, z⟩ := (I.hok T' o r).here; rw [tn] at z; cases z
end
def AirPass (X : Cx) (E : XK) : Prop := ∀ (pins : List (Addr × Obj)) (σ : St) (H : Hp) (s : Shared) (e C : Addr), Inv X pins σ H s → Air X H s.heap e (.ref C) → E (.ref C) none H → X.xe (.ref e) s
theorem airE {P : Program} {w : World} {K : PySem.W.Frag} {mg : Str → Option Value} {base : Heap} {N : List Str} {qual : Str} {scope : Scope} {f : Addr} {cd : Value} {A : Around} {outer : List Env} {s : Shared} {H : Hp} {E : XK} :
    AirPass (cxOf (CXe P w base) P w K mg base N qual scope f cd A outer s H E) E := by
  intro pins σ H1 s1 e C I a q
  exact lv_air I rfl rfl rfl a fun h' u' hok' fl' => ⟨e, C, H1, rfl, I.os, I.bare, u', hok', fl', q⟩
end L2
namespace L2
open PySem PySem.Spec PyProof.Rows
section
variable {prog : Program} {w : World} {A : Around} {R : Result → Shared → Prop} {s : Shared}
theorem comp_loopX {elt target iter : Expr} {scope : Scope} {pos : Pos} {it acc : Value} {env : Env} {EE : Value → Shared → Prop} (hE : ∀ e s', EE e s' → notedBy (model prog w) A env (fun x s' => R (.error x) s') e s') (I : Nat → Shared → Prop)
    (turn : ∀ n s, I n s → wpAny (model prog w) A (pyNext it) (fun r s₁ => match r with
      | none => R (.ok .next) s₁
      | some v => wpAny (model prog w) A (letOwnedTupleGo target it v) (fun _ s₂ => wpAny (model prog w) A (assign target env v) (fun _ s₃ => wpAny (model prog w) A (eval elt env) (fun x s₄ =>
          wpAny (model prog w) A (call (.builtin "list.append") [acc, x]) (fun _ s₅ => ∃ m, m < n ∧ I m s₅) EE s₄) EE s₃) EE s₂) EE s₁) EE s)
    (n : Nat) (h : I n s) : codeAny (model prog w) A (.compLoop (.ListComp elt [⟨target, iter, [], 0⟩] scope pos) 0 it acc env) R s := by
  refine codeAny_loop rfl I (fun n s hI => ?_) n h
  show wpAny _ _ ((compTurn (.ListComp elt [⟨target, iter, [], 0⟩] scope pos) 0 it acc env).onRaise (fun x => do noteFrame x env; theTreesLotGoes x)) _ _ s
  refine wpAny_noted ?_
  rw [compTurn_list1]
  refine wpAny_bind (wpAny_standAt (wpAny_bind (wpAny_mono (turn n s hI) (fun r s₁ h₁ => ?_) fun _ _ z => hE _ _ z)))
  cases r with
  | none => exact wpAny_pure h₁
  | some v =>
    refine wpAny_bind (wpAny_mono h₁ (fun _ s₂ h₂ => ?_) fun _ _ z => hE _ _ z)
    refine wpAny_bind (wpAny_mono h₂ (fun _ s₃ h₃ => ?_) fun _ _ z => hE _ _ z)
    refine wpAny_bind (wpAny_bind (wpAny_mono h₃ (fun x s₄ h₄ => ?_) fun _ _ z => hE _ _ z))
    exact wpAny_bind (wpAny_mono h₄ (fun _ s₅ h₅ => wpAny_pure (wpAny_pure ⟨rfl, h₅⟩)) fun _ _ z => hE _ _ z)
end
theorem noteFrame_frame {e : Value} {env env' : Env} (h : env.frame = env'.frame) : noteFrame e env = noteFrame e env' := by
  unfold noteFrame PySem.frameOf
  rw [h]
abbrev Cx.compX (X : Cx) (scope : Scope) (cl : List (Str × Addr)) (NY : List Str) (s3 : Shared) (H3 : Hp) (fp : List Addr) (E : XK) : Cx :=
  (X.comp scope cl NY s3 H3 fp).wish fun e s' => ∃ (pins : List (Addr × Obj)) (σ : St) (H : Hp) (s : Shared), Inv (X.comp scope cl NY s3 H3 fp) pins σ H s ∧ CXe X.prog X.w X.base X.stack H s E e s'
section
variable {X : Cx} {pins : List (Addr × Obj)} {σ : St} {H H' : Hp} {s s' : Shared} {e C T : Addr}
theorem mid_invX {B h : Heap} (I : Inv X pins σ H s)
    (u : Un (frs X.stack) [] H H' s.heap s'.heap) (hok : HOk X.prog X.w H' s'.heap) (bare : AllBare s'.gens) (os : s'.os = s.os) (fl : Fly X.base X.stack H' s.heap s'.heap e (.ref C))
    (nT : s.heap.get? T = none) (fT : H' T = none) (hB : ∀ b o, b ∉ e :: T :: frs X.stack → s'.heap.get? b = some o → B.get? b = some o) (hfl : B.StaysIn h) (hsl : s'.heap.UpToSlots h) :
    Inv X pins σ H' { s' with heap := h } := by
  obtain ⟨y1, y2, y3, y4, y5, _⟩ := fl
  have fdat : ∀ b ∈ frs X.stack, ∃ o, s'.heap.get? b = some o ∧ ∀ vs, o.data ≠ .fields vs := fun b hb => (y2.mem hb).2
  have keep : ∀ b o, b ∉ frs X.stack → b ≠ e → b ≠ T → s'.heap.get? b = some o → h.get? b = some o := fun b o n n1 n2 q => hfl b o (hB b o (by simp [n, n1, n2]) q)
  have slot : ∀ b o, b ∈ frs X.stack → s'.heap.get? b = some o → ∃ sl, h.get? b = some { o with slots := sl } := fun b o hb q => by
    obtain ⟨o', q', nf⟩ := fdat b hb
    rw [q] at q'; cases q'
    exact hsl b o q nf
  have old : ∀ b o, s.heap.get? b = some o → b ≠ e ∧ b ≠ T := fun b o q => ⟨fun z => (by rw [z, y4] at q; cases q), fun z => (by rw [z, nT] at q; cases q)⟩
  have funt : ∀ b ∈ frs X.stack, H' b = none := fun b hb => by
    obtain ⟨_, o, ho, _⟩ := I.stack.mem hb
    exact u.free b o ho (I.stkFree b hb) (by simp)
  have trk : ∀ b o, H' b = some o → b ∉ frs X.stack ∧ b ≠ e ∧ b ≠ T := fun b o q => ⟨fun hb => (by rw [funt b hb] at q; cases q), fun z => (by rw [z, y5] at q; cases q), fun z => (by rw [z, fT] at q; cases q)⟩
  refine I.call' (s' := { s' with heap := h }) (ch := []) os ⟨fun b o q n hb _ => ?_, fun b o q n hb _ => ?_, u.free, fun b o q _ => ?_, u.tups, u.frzs, u.tbls⟩ (fun b o q => ?_) bare (fun b z => absurd z (by simp))
  · exact keep b o hb (old b o q).1 (old b o q).2 (u.keep b o q n hb (by simp))
  · obtain ⟨sl, q1⟩ := u.slot b o q n hb (by simp)
    obtain ⟨sl', q2⟩ := slot b _ hb q1
    exact ⟨sl', q2⟩
  · obtain ⟨o', q1⟩ := u.there b o q (by simp)
    by_cases hb : b ∈ frs X.stack
    · obtain ⟨sl, q2⟩ := slot b o' hb q1
      exact ⟨_, q2⟩
    · exact ⟨_, keep b o' hb (old b o q).1 (old b o q).2 q1⟩
  · exact (hok b o q).stay (fun c v hc r => by
      have z : c ∉ frs X.stack ∧ c ≠ e ∧ c ≠ T := by
        rcases hc with rfl | hc
        · exact trk _ _ q
        · exact trk _ _ hc
      exact keep c v z.1 z.2.1 z.2.2 r) (fun _ z => z) fun _ _ z => z
end
section
variable {X : Cx} {tg : Expr}
theorem comp_air {pins pY : List (Addr × Obj)} {σ σY : St} {H3 H : Hp} {s3 s s' : Shared} {scope : Scope} {cl : List (Str × Addr)} {NY : List Str} {fp : List Addr} {E : XK} {ev : Value} {use : Option (Value → Sem Unit)} {R : Value → Shared → Prop} {acc : Value}
    (I3 : Inv X pins σ H3 s3) (hfp : ∀ b ∈ fp, FpOk X pins H3 b) (hst : X.stack = X.env :: X.outer) (hf : X.env.frame = some X.env.locals) (hex : X.ex = []) (hx : AirPass X E)
    (J : Inv (X.comp scope cl NY s3 H3 fp) pY σY H s) (h : CXe X.prog X.w X.base X.stack H s E ev s') :
    notedBy (model X.prog X.w) X.A (compEnvC scope cl s3.heap.objs.size X.env) (fun x s' => compPost (model X.prog X.w) X.A X.xe use R acc s3.heap.objs.size (.error x) s') ev s' := by
  obtain ⟨e, C, H', rfl, os, bare, u, hok, fl, q⟩ := h
  obtain ⟨y1, y2, y3, y4, y5, oe, ws, T, oT, ts, t1, t2, t3, t4, t6, t7, t8, t9, t10, t11, t12⟩ := id fl
  have hfr : X.A.frames = some (X.env :: X.outer) := by rw [← hst]; exact I3.ok.frames
  have bno : ∀ b ∈ e :: T :: frs (X.env :: X.outer), (PySem.W.hideAll s'.heap (e :: T :: frs (X.env :: X.outer))).get? b = none := fun b hb => PySem.W.hideAll_none _ hb
  have bof : ∀ b o, (PySem.W.hideAll s'.heap (e :: T :: frs (X.env :: X.outer))).get? b = some o → s'.heap.get? b = some o := fun b o q => PySem.W.of_hideAll _ q
  have sz : 1 < ws.size := (Array.getElem?_eq_some_iff.mp t4).1
  have fw : Heap.FlyingW (PySem.W.hideAll s'.heap (e :: T :: frs (X.env :: X.outer))) (X.env :: X.outer) e (.ref C) ws[0] s'.heap :=
    ⟨fun b o q => bof b o q, bno e (by simp), frames_over (hst ▸ y2) (fun b hb => bno b (by simp [hb])), oe, ws, T, oT, ts, t1, ⟨t2, by simp⟩, t3, t4, bno T (by simp), t6, t7, t8, t9⟩
  show wpAny _ _ (noteFrame (.ref e) (compEnvC scope cl s3.heap.objs.size X.env)) _ _ _
  rw [noteFrame_frame (env := compEnvC scope cl s3.heap.objs.size X.env) (env' := X.env) rfl]
  refine wpAny_looks_onW hfr hf fw fun h1 k1 u1 => ?_
  have J1 : Inv (X.comp scope cl NY s3 H3 fp) pY σY H' { s' with heap := h1 } := mid_invX (T := T) J u hok bare os fl t11 t12 (fun b o hb r => PySem.W.hideAll_get _ r (by rw [← hst]; exact hb)) k1.1 u1
  obtain ⟨m, hm, _⟩ := J1.loc
  obtain ⟨g1, g2, g3, oe', ws', T', oT', ts', r1, ⟨r2, r2'⟩, r3, r4, r5, r6, r7, r8, r9⟩ := k1
  refine (show compPost (model X.prog X.w) X.A X.xe use R acc s3.heap.objs.size (.error (.ref e)) { s' with heap := h1 } from ?_)
  suffices fin : ∃ m, h1.Ns s3.heap.objs.size m ∧ ∀ h', Heap.SameBut s3.heap.objs.size h1 h' → ∀ cenv : Env, cenv.locals = s3.heap.objs.size → wpAny (model X.prog X.w) X.A (PySem.passOn "comprehension.variables-let-go" (.ref e) cenv : Sem Value) (fun _ _ => False) X.xe { s' with heap := h' } by
    cases use <;> exact fin
  refine ⟨m, hm, fun h' hs cenv _ => ?_⟩
  have nC : ∀ b o ws, h1.get? b = some o → o.data = .fields ws → b ≠ s3.heap.objs.size := fun b o ws z zd => by
    rintro rfl
    obtain ⟨o', es, ep, z', zd', _⟩ := (show h1.Ns s3.heap.objs.size m from hm)
    rw [z] at z'; cases z'
    rw [zd] at zd'; cases zd'
  have he := (hs.2 e (nC e oe' ws' r1 r3)).trans r1
  have hT := (hs.2 T' (nC T' oT' ts' r7 r8)).trans r7
  have noT : T' = T ∨ s'.heap.get? T' = none := by
    by_cases z : T' = T
    · exact .inl z
    · right
      have tf : T' ∉ frs (X.env :: X.outer) := fun z => by
        obtain ⟨_, o', q', nf⟩ := g3.mem z
        rw [r7] at q'; cases q'
        exact nf ts' r8
      cases r : s'.heap.get? T' with
      | none => rfl
      | some o => rw [PySem.W.hideAll_get _ r (by simp [tf, r6, z])] at r5; cases r5
  have TN : s.heap.get? T' = none ∧ X.base.get? T' = none ∧ H' T' = none := by
    rcases noT with rfl | z
    · exact ⟨t11, t10, t12⟩
    · refine ⟨?_, ?_, ?_⟩
      · cases r : s.heap.get? T' with
        | none => rfl
        | some o =>
          obtain ⟨o', z'⟩ := u.there T' o r (by simp)
          rw [z] at z'; cases z'
      · cases r : X.base.get? T' with
        | none => rfl
        | some o => have := y1 T' o r; rw [z] at this; cases this
      · cases r : H' T' with
        | none => rfl
        | some o => obtain ⟨ob, z'⟩ := (hok T' o r).here; rw [z] at z'; cases z'
  have old3 : ∀ b, s.heap.get? b = none → X.s₀.heap.get? b = none := fun b z => by
    cases r : X.s₀.heap.get? b with
    | none => rfl
    | some o =>
      exfalso
      by_cases hb : b ∈ fp
      · rcases (hfp b hb).2.2.2.1 with y | y
        · rw [hex] at y; cases y
        · exact absurd (Heap.lt_size r) (Nat.not_lt.mpr y)
      · obtain ⟨o', r'⟩ := I3.base.there b o r (by rw [hex]; simp)
        obtain ⟨o2, r2⟩ := J.base.there b o' r' hb
        rw [r2] at z; cases z
  unfold PySem.passOn
  refine wpAny_bind (wpAny_field he r3 r4 ?_)
  rw [if_neg (show ¬ ((Value.ref T' == Value.none) = true) by simp)]
  have h3sz : 3 < ts'.size := (Array.getElem?_eq_some_iff.mp r9).1
  unfold setFlight
  refine wpAny_bind (wpAny_bind (wpAny_field he r3 r4 ?_))
  rw [if_pos (show (Value.ref T' != Value.none) = true by simp)]
  refine wpAny_setField hT r8 h3sz (wpAny_throw ?_)
  have hTe := r6
  have kT : ∀ b, b ≠ T' → (h'.update T' (Obj.mapFields (·.setIfInBounds 3 (cenv.frame.elim Value.none fun f => rawInt f)))).get? b = h'.get? b := fun b hb => Heap.get?_update_other _ _ (Ne.symm hb)
  have k1T : ∀ b, b ≠ T' → (h1.update T' (Obj.mapFields (·.setIfInBounds 3 (cenv.frame.elim Value.none fun f => rawInt f)))).get? b = h1.get? b := fun b hb => Heap.get?_update_other _ _ (Ne.symm hb)
  have J2 : Inv (X.comp scope cl NY s3 H3 fp) pY σY H' { s' with heap := h1.update T' (Obj.mapFields (·.setIfInBounds 3 (cenv.frame.elim Value.none fun f => rawInt f))) } := by
    refine mid_invX (B := PySem.W.hideAll s'.heap (e :: T :: frs (X.env :: X.outer))) (T := T) J u hok bare os fl t11 t12 (fun b o hb r => PySem.W.hideAll_get _ r (by rw [← hst]; exact hb)) (fun b o z => ?_) (fun b o z zn => ?_)
    · exact (k1T b fun y => by rw [y, r5] at z; cases z).trans (g1 b o z)
    · obtain ⟨sl, z'⟩ := u1 b o z zn
      refine ⟨sl, (k1T b fun y => ?_).trans z'⟩
      subst y
      rw [r7] at z'; cases z'
      exact zn ts' r8
  have I4 : Inv X pins σ H' { s' with heap := h'.update T' (Obj.mapFields (·.setIfInBounds 3 (cenv.frame.elim Value.none fun f => rawInt f))) } := by
    refine comp_back (s' := { s' with heap := h1.update T' (Obj.mapFields (·.setIfInBounds 3 (cenv.frame.elim Value.none fun f => rawInt f))) }) I3 hfp J2 ⟨?_, fun b nb => ?_⟩
    · rw [Heap.size_update, Heap.size_update]; exact hs.1
    · by_cases y : b = T'
      · subst y
        rw [Heap.get?_update_self _ hT (Obj.isFreed_of_fields (Obj.data_mapFields r8 _)), Heap.get?_update_self _ r7 (Obj.isFreed_of_fields (Obj.data_mapFields r8 _))]
      · exact (kT b y).trans ((hs.2 b nb).trans (k1T b y).symm)
  refine hx pins σ H' _ e C I4 ⟨y3, old3 e y4, y5, oe', ws', T', _, _, (cenv.frame.elim Value.none fun f => rawInt f), (kT e (Ne.symm hTe)).trans he, r2, r3, r4, hTe, Heap.get?_update_self _ hT (Obj.isFreed_of_fields (Obj.data_mapFields r8 _)), Obj.data_mapFields r8 _, ?_, TN.2.1, old3 T' TN.1, TN.2.2⟩ q
  rw [Array.getElem?_setIfInBounds_self_of_lt h3sz]
theorem comp_coreX {iter elt : Expr} {scope : Scope} {pos pos' : Pos} {cl : List (Str × Addr)} {NY : List Str} {wi : TI} {g : TG} {te : TE} {σ0 : St → Hp → St → Prop} {E : XK} (hc : X.calm = true) (hst : X.stack = X.env :: X.outer) (hf : X.env.frame = some X.env.locals) (hex : X.ex = []) (hx : AirPass X E) (S : Sees X scope cl) (hi : PI X tg iter wi)
    (hY : ∀ (s3 : Shared) (H3 : Hp) (fp : List Addr), PG (X.compX scope cl NY s3 H3 fp E) tg g ∧ PE (X.compX scope cl NY s3 H3 fp E) elt te)
    (h0 : ∀ (pins : List (Addr × Obj)) (σ : St) (H : Hp) (s3 : Shared) (σY : St), Inv X pins σ H s3 → σ0 σ H σY → σY.length = NY.length ∧ ∀ (i : Nat) (x : Str) (v : V), NY[i]? = some x → σY[i]? = some (some v) →
      ∃ c u, (((compEnvC scope cl 0 X.env).kindOf x = some .cell ∨ (compEnvC scope cl 0 X.env).kindOf x = some .free)) ∧ cl.lookup x = some c ∧ RelV v u ∧ s3.heap.IsCell c (some u))
    (hs : ∀ x, foldedSetIterable iter X.env x = pure x) {use : Option (Value → Sem Unit)} {R : Value → Shared → Prop} {pins : List (Addr × Obj)} {s : Shared} {σ : St} {H : Hp} {Q : VK} (I : Inv X pins σ H s) (h : tComp wi g te σ0 σ H Q)
    (fin : ∀ (C D : Addr) (H5 : Hp) (s6 : Shared), CompEnd X pins σ H5 s6 C → Q (.ref D) H5 → compPost (model X.prog X.w) X.A X.xe use R (.ref D) C (.ok .next) s6) :
    wpAny (model X.prog X.w) X.A (comprehension (.ListComp elt [⟨tg, iter, [], 0⟩] scope pos) scope X.env pos' (newList []) (firstAsync [⟨tg, iter, [], 0⟩]) (firstIter [⟨tg, iter, [], 0⟩] X.env) use) R X.xe s := by
  refine wpAny_comprehension_free rfl hs S.clos S.kind S.names (thn (hi pins s σ H _ I h) fun v s1 h1 => thn h1 fun itv s2 h2 => ?_)
  obtain ⟨it, fp, tn, J, H2, e, I2, T, st2, f2, σY, hσ, hW⟩ := h2
  subst e
  refine wpAny_newObj_type ?_
  have I3 : Inv X pins σ (upd H2 s2.heap.objs.size (.lst [])) { s2 with heap := s2.heap.push { cls := .type "list", data := .seq ([] : List Value).toArray } } := I2.lnew (t' := s2.toks) (its := []) .nil (Nat.zero_le _)
  obtain ⟨W, ⟨m0, w0⟩, turn⟩ := hW s2.heap.objs.size (I2.hok.fresh (Nat.le_refl _))
  have ob2 := T.obj _ _ st2
  have hfp : ∀ b ∈ fp, FpOk X pins (upd H2 s2.heap.objs.size (.lst [])) b := fun b hb => by
    obtain ⟨o, q, _⟩ := ob2 b hb
    exact ⟨by rw [upd_ne (Nat.ne_of_lt (Heap.lt_size q))]; exact (f2 b hb).1, (f2 b hb).2⟩
  have hob : ∀ b ∈ fp, ∃ o, (s2.heap.push { cls := .type "list", data := .seq ([] : List Value).toArray }).get? b = some o := fun b hb => by
    obtain ⟨o, q, _⟩ := ob2 b hb
    exact ⟨o, Heap.get?_push_of_some _ q⟩
  refine wpAny_newFunctionEnv S.nocell (fun y hy => absurd hy (by simp)) (fun h1 hn1 hs1 => ?_) S.kind
  obtain ⟨hl, hY0⟩ := h0 pins σ H2 s2 σY I2 hσ
  have k23 : ∀ b o, s2.heap.get? b = some o → (s2.heap.push { cls := .type "list", data := .seq ([] : List Value).toArray }).get? b = some o := fun b o q => Heap.get?_push_of_some _ q
  have k34 : ∀ b o, (s2.heap.push { cls := .type "list", data := .seq ([] : List Value).toArray }).get? b = some o → h1.get? b = some o := fun b o q => (hs1.2 b (Nat.ne_of_lt (Heap.lt_size q))).trans (Heap.get?_push_of_some _ q)
  have I4 := comp_inv (scope := scope) (cl := cl) (NY := NY) (fp := fp) (h1 := h1) (t := s2.toks) (σY := σY) I3 S hfp hob hn1 k34 hl fun i x v e1 e2 => by
    obtain ⟨c, u, k, q, r, o, z1, z2⟩ := hY0 i x v e1 e2
    exact ⟨c, u, k, q, r, o, k23 _ _ z1, z2⟩
  have st4 : tn 0 h1 := T.keep _ _ _ st2 fun b hb o q => k34 _ _ (k23 _ _ q)
  have fr4 : ∀ b ∈ fp, (upd H2 s2.heap.objs.size (.lst [])) b = none := fun b hb => (hfp b hb).1
  obtain ⟨S3, hS3⟩ : ∃ S3 : Shared, S3 = { s2 with heap := s2.heap.push { cls := .type "list", data := .seq ([] : List Value).toArray } } := ⟨_, rfl⟩
  rw [← hS3] at I3 I4
  have eC : (s2.heap.push { cls := .type "list", data := .seq ([] : List Value).toArray }).objs.size = S3.heap.objs.size := by rw [hS3]
  rw [eC]
  obtain ⟨hg, he⟩ := hY S3 (upd H2 s2.heap.objs.size (.lst [])) fp
  have okY := I4.ok
  have statY : ∀ {H' : Hp}, (∀ b ∈ fp, H' b = none) → ∀ b ∈ fp, FpOk (X.compX scope cl NY S3 (upd H2 s2.heap.objs.size (.lst [])) fp E) [] H' b :=
    fun hn b hb => ⟨hn b hb, (okY.exf b hb).1, okY.exfs b hb, .inl hb, (okY.exf b hb).2, fun p hp => absurd hp (by simp)⟩
  have loop : codeAny (model X.prog X.w) X.A (.compLoop (.ListComp elt [⟨tg, iter, [], 0⟩] scope pos) 0 (.ref it) (.ref s2.heap.objs.size) (compEnvC scope cl S3.heap.objs.size X.env))
      (compPost (model X.prog X.w) X.A X.xe use R (.ref s2.heap.objs.size) S3.heap.objs.size) { s2 with heap := h1, toks := s2.toks } := by
    refine comp_loopX (EE := (X.compX scope cl NY S3 (upd H2 s2.heap.objs.size (.lst [])) fp E).xe) (fun e s' ⟨pY, σ5, H5, s5, J5, c5⟩ => comp_air I3 hfp hst hf hex hx J5 c5)
      (fun n s' => ∃ i σ' H', Inv (X.compX scope cl NY S3 (upd H2 s2.heap.objs.size (.lst [])) fp E) [] σ' H' s' ∧ tn i s'.heap ∧ (∀ b ∈ fp, H' b = none) ∧ W i n σ' H') ?_ m0 ⟨0, σY, _, (show Inv (X.compX scope cl NY S3 (upd H2 s2.heap.objs.size (.lst [])) fp E) [] σY (upd H2 s2.heap.objs.size (.lst [])) { s2 with heap := h1, toks := s2.toks } by rw [hS3] at I4 ⊢; exact I4.wish _), st4, fr4, w0⟩
    rintro n s5 ⟨i, σ5, H5, I5, st5, fr5, w5⟩
    rcases turn i n σ5 H5 w5 with ⟨stop, q⟩ | ⟨go, N, hN, step⟩
    · refine thn (T.done (X.compX scope cl NY S3 (upd H2 s2.heap.objs.size (.lst [])) fp E) rfl rfl rfl hc i [] s5 σ5 H5 _ I5 (statY fr5) st5 stop) fun r s6 ⟨hr, I6⟩ => ?_
      subst hr
      have I6 := I6.unwish
      obtain ⟨m, hm, _⟩ := I6.loc
      refine fin _ _ H5 s6 ⟨⟨m, hm⟩, I6.free, Ne.symm (Nat.ne_of_lt I3.lt), I3.sz, fun x c z => ?_, fun p hp => ?_, fun h' hs' => comp_back I3 hfp I6 hs'⟩ q
      · obtain ⟨_, o, z1, _⟩ := I3.cell x c z
        exact Nat.ne_of_lt (Heap.lt_size z1)
      · exact Nat.ne_of_lt (Heap.lt_size (I3.pin p hp).1)
    · refine thn (T.item (X.compX scope cl NY S3 (upd H2 s2.heap.objs.size (.lst [])) fp E) rfl rfl rfl hc i [] s5 σ5 H5 _ I5 (statY fr5) st5 go) fun r s6 ⟨u, hr, h6⟩ => ?_
      subst hr
      refine thn h6 fun _ s7 ⟨x, H7, I7, r7, y7, st7, fr7⟩ => ?_
      have I7' := I7.pinned (statY fr7) (T.obj _ _ st7)
      refine thn (hg _ s7 σ5 H7 x u _ I7' r7 (step x H7 y7)) fun _ s8 ⟨σ8, H8, I8, q8⟩ => ?_
      refine thn (he _ s8 σ8 H8 _ I8 q8) fun z s9 ⟨v9, H9, I9, r9, xs, hx9, hz9, n9⟩ => ?_
      refine thn (mt_append _ s9 σ8 H9 (.ref s2.heap.objs.size) [v9] (.ref s2.heap.objs.size) [z] (fun _ H' => H' = upd H9 s2.heap.objs.size (.lst (xs ++ [v9]))) I9 rfl (.cons r9 .nil) ⟨s2.heap.objs.size, xs, v9, rfl, rfl, hx9, hz9, rfl⟩) fun y s10 ⟨v10, H10, I10, _, e10⟩ => ?_
      subst e10
      obtain ⟨m', hm, w10⟩ := hN _ _ n9
      refine ⟨m', hm, i + 1, σ8, _, I10.unpinned, T.keep _ _ _ st7 fun b hb o q => (I10.pin (b, o) (List.mem_append_right _ (List.mem_append_right _ (mem_pinsAt hb q)))).1, fun b hb => ?_, w10⟩
      obtain ⟨o, q, d⟩ := T.obj _ _ st7 b hb
      exact (I10.pin (b, o) (List.mem_append_right _ (List.mem_append_right _ (mem_pinsAt hb q)))).2.1
  exact codeAny_compStart_list loop (T.self _ 0 _ _ _ st4 loop)
theorem ps_compX {iter elt : Expr} {scope : Scope} {pos pos' spos : Pos} {wi : TI} {g : TG} {te : TE} {i : Nat} {y : Str} {E : XK} (hst : X.stack = X.env :: X.outer) (hf' : X.env.frame = some X.env.locals) (hex : X.ex = []) (hx' : AirPass X E) (NY : List Str) (cap : List (Option Nat)) (hc : X.calm = true) (hk : seesOk X scope = true) (hcap : capOk X scope NY cap = true) (hi : PI X tg iter wi)
    (hY : ∀ (s3 : Shared) (H3 : Hp) (fp : List Addr), PG (X.compX scope (clOf X.env scope) NY s3 H3 fp E) tg g ∧ PE (X.compX scope (clOf X.env scope) NY s3 H3 fp E) elt te) (hN : X.N.Nodup) (hi' : X.N[i]? = some y) (hx : Loc X.env.scope y)
    (hf : X.fn y = true ∨ X.env.scope.names.lookup y = some .local := by first | exact .inl rfl | exact .inr rfl) (hw : swapsWith (.ListComp elt [⟨tg, iter, [], 0⟩] scope pos) (some (.Name y pos')) spos.line X.env = pure true := by rfl)
    (hs : ∀ x, foldedSetIterable iter X.env x = pure x := by intro _; rfl) : PS X (.Assign [.Name y pos'] (.ListComp elt [⟨tg, iter, [], 0⟩] scope pos) spos) (tAsg (tCompC wi g te cap) (gName i)) := by
  intro pins s σ H D I h
  rw [exec_Assign_Name_used _ _ _ _ hw, arm_evalThenUse_ListComp]
  refine wpAny_bind (wpAny_standAt (wpAny_bind (wpAny_bind (wpAny_mono (comp_coreX (E := E) (σ0 := fun σ _ σY => σY = capt cap σ) (Q := fun v H1 => gName i v σ H1 D.nx) (use := some (assign (.Name y pos') X.env)) (R := fun _ s' => SP X pins D .next s') hc hst hf' hex hx' (sees_of I.ok hk) hi hY (fun pins σ H s3 σY I3 e => by subst e; exact capt_ok I3 (sees_of I3.ok hk) hcap) hs I h fun C L H5 s6 e q => ?_) (fun _ s' z => wpAny_pure (wpAny_pure z)) fun _ _ z => z))))
  obtain ⟨m, hm⟩ := e.ns
  have I6 : Inv X pins σ H5 s6 := e.inv s6.heap ⟨rfl, fun _ _ => rfl⟩
  refine wpAny_assign_Name (store_ok2 I6 hN hi' hx (v := .ref L) rfl (fun s' I' ⟨a, sb, ha⟩ => ?_) hf)
  have ne : C ≠ a := by
    rintro rfl
    rcases ha with z | z
    · exact e.hL z
    · exact e.h2 _ _ z rfl
  refine ⟨m, ?_, fun h' hs' => ?_⟩
  · obtain ⟨o, es, ep, z, r⟩ := hm
    exact ⟨o, es, ep, (sb.2 _ ne).trans z, r⟩
  · exact ⟨_, H5, I'.turned (t' := s'.toks) (it := C) (fun b o nb z => (hs'.2 b nb).trans z) e.hn e.hL (.inr e.h1) e.h2 e.h3, q⟩
end
end L2
namespace L2
open PySem PySem.Spec PyProof.Rows
structure Hd (B : Hp) (L : List (Addr × HO)) (H : Hp) : Prop where
  nd : (L.map Prod.fst).Nodup
  nw : ∀ p ∈ L, B p.1 = none
  st : ∀ p ∈ L, H p.1 = some p.2
  sm : Same B H
namespace Hd
variable {B : Hp} {L : List (Addr × HO)} {H H' : Hp} {a b : Addr} {o o' : HO}
theorem base : Hd B [] B := ⟨List.nodup_nil, (fun _ h => nomatch h), (fun _ h => nomatch h), Same.refl B⟩
theorem get (h : Hd B L H) (i : Nat) (e : L[i]? = some (a, o)) : H a = some o := h.st _ (List.mem_of_getElem? e)
theorem same (h : Hd B L H) (s : Same H H') : Hd B L H' := ⟨h.nd, h.nw, fun p m => s _ _ (h.st p m), h.sm.trans s⟩
theorem new (h : Hd B L H) (n : H a = none) : Hd B ((a, o) :: L) (upd H a o) := by
  have ne : ∀ p ∈ L, p.1 ≠ a := fun p m => ne_of_none (h.st p m) n
  refine ⟨List.nodup_cons.mpr ⟨fun m => ?_, h.nd⟩, fun p m => ?_, fun p m => ?_, same_upd h.sm (h.sm.free n)⟩
  · obtain ⟨p, mp, e⟩ := List.mem_map.mp m
    exact ne p mp e
  · rcases List.mem_cons.mp m with rfl | m
    · exact h.sm.free n
    · exact h.nw p m
  · rcases List.mem_cons.mp m with rfl | m
    · exact upd_same
    · rw [upd_ne (ne p m)]; exact h.st p m
theorem fst_set (i : Nat) (e : L[i]? = some (a, o)) : (L.set i (a, o')).map Prod.fst = L.map Prod.fst := by
  rw [List.map_set]
  apply List.ext_getElem?
  intro j
  rw [List.getElem?_set]
  split
  · rename_i q
    subst q
    split
    · rw [List.getElem?_map, e]; rfl
    · rename_i q
      rw [List.getElem?_eq_none (by omega)]
  · rfl
theorem ne (h : Hd B L H) (i j : Nat) (ei : L[i]? = some (a, o)) (ej : L[j]? = some (b, o')) (hij : i ≠ j) : a ≠ b := fun e => by
  subst e
  have h1 : (L.map Prod.fst)[i]? = some a := by rw [List.getElem?_map, ei]; rfl
  have h2 : (L.map Prod.fst)[j]? = some a := by rw [List.getElem?_map, ej]; rfl
  obtain ⟨b1, e1⟩ := List.getElem?_eq_some_iff.mp h1
  obtain ⟨b2, e2⟩ := List.getElem?_eq_some_iff.mp h2
  have key : ∀ (l : List Addr), l.Nodup → ∀ (i j : Nat) (b1 : i < l.length) (b2 : j < l.length), l[i] = l[j] → i = j := by
    intro l hl
    induction l with
    | nil => intro i j b1; cases b1
    | cons x r ih =>
      intro i j b1 b2 q
      have nr := List.nodup_cons.mp hl
      cases i with
      | zero =>
        cases j with
        | zero => rfl
        | succ j => exact absurd (by rw [List.getElem_cons_zero, List.getElem_cons_succ] at q; rw [q]; exact List.getElem_mem _) nr.1
      | succ i =>
        cases j with
        | zero => exact absurd (by rw [List.getElem_cons_zero, List.getElem_cons_succ] at q; rw [← q]; exact List.getElem_mem _) nr.1
        | succ j => rw [List.getElem_cons_succ, List.getElem_cons_succ] at q; rw [ih nr.2 i j _ _ q]
  exact hij (key _ h.nd i j b1 b2 (e1.trans e2.symm))
theorem chg (h : Hd B L H) (i : Nat) (e : L[i]? = some (a, o)) (k : ∀ c u, c ≠ a → H c = some u → H' c = some u) (q : H' a = some o') : Hd B (L.set i (a, o')) H' := by
  have nb : B a = none := h.nw _ (List.mem_of_getElem? e)
  refine ⟨by rw [fst_set i e]; exact h.nd, fun p m => ?_, fun p m => ?_, fun c u z => k c u (ne_of_none z nb) (h.sm c u z)⟩
  · rcases List.mem_or_eq_of_mem_set m with m | rfl
    · exact h.nw p m
    · exact nb
  · obtain ⟨j, lt, ej⟩ := List.getElem_of_mem m
    have ej : (L.set i (a, o'))[j]? = some p := by rw [List.getElem?_eq_getElem lt, ej]
    rw [List.getElem?_set] at ej
    split at ej
    · split at ej
      · cases ej; exact q
      · cases ej
    · rename_i hij
      obtain ⟨c, u⟩ := p
      exact k c u (Ne.symm (h.ne i j e ej hij)) (h.get j ej)
theorem put (h : Hd B L H) (i : Nat) (e : L[i]? = some (a, o)) : Hd B (L.set i (a, o')) (upd H a o') := h.chg i e (fun c u n z => by rw [upd_ne n]; exact z) upd_same
theorem sql (h : Hd B L H) {K : PySem.W.Frag} {xs : List V} (q : SqL K B a xs) : SqL K H a xs := sql_same q h.sm
theorem sqt (h : Hd B L H) {K : PySem.W.Frag} {xs : List V} (q : SqT K B a xs) : SqT K H a xs := by
  rcases q with (q | ⟨o, q⟩) | q
  · exact .inl (.inl (h.sm _ _ q))
  · exact .inl (.inr ⟨o, h.sm _ _ q⟩)
  · exact .inr q
theorem lst (h : Hd B L H) {K : PySem.W.Frag} {xs : List V} (i : Nat) (e : L[i]? = some (a, .lst xs)) : SqL K H a xs := SqL.of (h.get i e)
theorem tup (h : Hd B L H) {K : PySem.W.Frag} {xs : List V} (i : Nat) (e : L[i]? = some (a, .tup xs)) : SqT K H a xs := SqT.of (h.get i e)
theorem sub {L' : List (Addr × HO)} (h : Hd B L H) (s : List.Sublist L' L) : Hd B L' H := ⟨h.nd.sublist (s.map _), fun p m => h.nw p (s.subset m), fun p m => h.st p (s.subset m), h.sm⟩
theorem tl {p : Addr × HO} (h : Hd B (p :: L) H) : Hd B L H := h.sub (List.sublist_cons_self _ _)
theorem free (h : Hd B L H) (n : H a = none) : B a = none := h.sm.free n
theorem add (h : Hd B L H) (n : ∀ p ∈ L, p.1 ≠ a) (nb : B a = none) (e : H a = some o) : Hd B ((a, o) :: L) H := by
  refine ⟨List.nodup_cons.mpr ⟨fun m => ?_, h.nd⟩, fun p m => ?_, fun p m => ?_, h.sm⟩
  · obtain ⟨p, mp, e⟩ := List.mem_map.mp m
    exact n p mp e
  · rcases List.mem_cons.mp m with rfl | m
    · exact nb
    · exact h.nw p m
  · rcases List.mem_cons.mp m with rfl | m
    · exact e
    · exact h.st p m
theorem made {C x dx l : Addr} {ox ol : HO} (h : Hd B L H) (nx : H x = none) (ndx : H dx = none) (ne : dx ≠ x) (k : ∀ b u, b ≠ x → upd (upd H dx (.own x)) x (.ins C dx []) b = some u → H' b = some u)
    (nl : upd (upd H dx (.own x)) x (.ins C dx []) l = none) (ex : H' x = some ox) (el : H' l = some ol) : Hd B ((l, ol) :: (x, ox) :: (dx, .own x) :: L) H' := by
  have h1 : Hd B ((dx, .own x) :: L) (upd H dx (.own x)) := h.new ndx
  have h2 : Hd B ((x, .ins C dx []) :: (dx, .own x) :: L) (upd (upd H dx (.own x)) x (.ins C dx [])) := h1.new (by rw [upd_ne (Ne.symm ne)]; exact nx)
  have h3 : Hd B ((x, ox) :: (dx, .own x) :: L) H' := h2.chg 0 rfl k ex
  refine h3.add (fun p m => ?_) (h2.free nl) el
  rcases List.mem_cons.mp m with rfl | m
  · exact ne_of_none (h2.get 0 rfl) nl
  · exact ne_of_none (h2.st p (List.mem_cons_of_mem _ m)) nl
theorem made0 {C x dx : Addr} {ox : HO} (h : Hd B L H) (nx : H x = none) (ndx : H dx = none) (ne : dx ≠ x) (k : ∀ b u, b ≠ x → upd (upd H dx (.own x)) x (.ins C dx []) b = some u → H' b = some u) (ex : H' x = some ox) : Hd B ((x, ox) :: (dx, .own x) :: L) H' := by
  have h1 : Hd B ((dx, .own x) :: L) (upd H dx (.own x)) := h.new ndx
  have h2 : Hd B ((x, .ins C dx []) :: (dx, .own x) :: L) (upd (upd H dx (.own x)) x (.ins C dx [])) := h1.new (by rw [upd_ne (Ne.symm ne)]; exact nx)
  exact h2.chg 0 rfl k ex
theorem perm {B : Hp} {L L' : List (Addr × HO)} {H : Hp} (h : Hd B L H) (p : L.Perm L') : Hd B L' H := ⟨(p.map Prod.fst).nodup h.nd, fun q m => h.nw q (p.mem_iff.mpr m), fun q m => h.st q (p.mem_iff.mpr m), h.sm⟩
end Hd
section
variable {X : Cx} {st : Stmt} {t : TS} {e : Expr} {te : TE}
def tMid (t : TS) : TS := fun D σ H => ∃ M : St → Hp → Prop, t { D with nx := M } σ H ∧ ∀ σ' H', M σ' H' → D.nx σ' H'
theorem ps_mid (h : PS X st t) : PS X st (tMid t) := by
  intro pins s σ H D I q
  obtain ⟨M, q, k⟩ := q
  refine thn (h pins s σ H _ I q) fun f s1 z => ?_
  cases f with
  | next => exact let ⟨σ', H', I', z⟩ := z; ⟨σ', H', I', k _ _ z⟩
  | ret v => exact z
  | brk => exact z
  | cont => exact z
def tMidE (te : TE) : TE := fun σ H Q => ∃ M : VK, te σ H M ∧ ∀ v H', M v H' → Q v H'
end
end L2
namespace L2
open PySem PySem.Spec PyProof.Rows
structure MkN (K : PySem.W.Frag) (C : Addr) : Prop where
  makes : PySem.W.makesIn K C = true
  init : PySem.W.findIn K (.ref C) "__init__" = some (some (.builtin "object.__init__"))
  kp : PySem.W.keepIn K (.ref C) = true
def tMakeN (C : Addr) : TE := fun _ H Q => ∀ x dx, H x = none → H dx = none → dx ≠ x → Q (.ref x) (upd (upd H dx (.own x)) x (.ins C dx []))
section
variable {X : Cx} {C : Addr} {x : Str} {p pos : Pos}
theorem pe_makeN (M : MkN X.K C) (hg : Gl X x) (hm : X.mg x = some (.ref C)) (hdb : (x == ("__debug__" : Str)) = false := by decide) : PE X (.Call (.Name x p) [] [] pos) (tMakeN C) := by
  intro pins s σ H Q I h
  refine wpAny_Call_Name_kw (ld_glob I hg hm ?_ hdb)
  refine PySem.W.callWith_K0 I.kIn M.kp ?_
  have I2 := Inv.made (C := C) I
  have q := h (s.heap.objs.size + 1) s.heap.objs.size (I.hok.fresh (Nat.le_succ _)) (I.hok.fresh (Nat.le_refl _)) (Nat.ne_of_lt (Nat.lt_succ_self _))
  refine wpAny_call (make_map0 I.kIn M.makes M.init (fun self => PySem.W.Looks.of_pure (PySem.W.oi_bind self)) ?_)
  have Y := PySem.W.makes_of (M := model X.prog X.w) I.kIn M.makes
  have e2 : ((s.heap.push PySem.W.emptyDict).push (PySem.W.instObj C s.heap.objs.size)).get? (s.heap.objs.size + 1) = some (PySem.W.instObj C s.heap.objs.size) := by
    have := Heap.get?_push_size (s.heap.push PySem.W.emptyDict) (o := PySem.W.instObj C s.heap.objs.size) rfl
    rwa [Heap.size_push] at this
  have t1 : PySem.W.Looks (model X.prog X.w) ((s.heap.push PySem.W.emptyDict).push (PySem.W.instObj C s.heap.objs.size)) (typeOf (.ref (s.heap.objs.size + 1))) (.ref C) := (PySem.W.Looks.ld e2).andThen .now
  have kp : ∀ b o, s.heap.get? b = some o → ((s.heap.push PySem.W.emptyDict).push (PySem.W.instObj C s.heap.objs.size)).get? b = some o := fun b o e => Heap.get?_push_of_some _ (Heap.get?_push_of_some _ e)
  have t2 : PySem.W.Looks (model X.prog X.w) ((s.heap.push PySem.W.emptyDict).push (PySem.W.instObj C s.heap.objs.size)) (isInstance (.ref (s.heap.objs.size + 1)) (.type "object")) true := t1.andThen (Y.top.keeps kp)
  refine codeAny_call_builtin PySem.W.oi_plain PySem.W.entry_oi (PySem.W.check_slot PySem.W.oi_kind PySem.W.oi_split t2 (PySem.W.oi_args _) ?_)
  rw [PySem.W.oi_run]
  exact wpAny_pure ⟨rfl, .ref (s.heap.objs.size + 1), _, I2, rfl, q⟩
end
end L2
namespace F2
open PySem L2
abbrev Kin := FM.Kin
abbrev SpotD := FM.SpotD
abbrev Res := FM.Res
mutual
inductive Fm
  | num (n : Int) | here | cell (r : Int) | shi (r b o : Int) | loc (a : Int) | at' (r : Int) (p : Fm) | pair (sg : Str) (l r : Fm) | cho (t l r : Fm) | call (a : Int) (hs : Fms)
inductive Fms
  | nil | cons (f : Fm) (r : Fms)
end
instance : Inhabited Fm := ⟨.here⟩
def Fms.len : Fms → Nat
  | .nil => 0
  | .cons _ r => r.len + 1
structure Cs extends FM.Cs where
  call : Addr
mutual
def FormAt (c : Cs) (H : Hp) : Fm → Addr → Prop
  | .num n, x => ∃ dx, H x = some (.ins c.num dx [("number", .int n)])
  | .here, x => ∃ dx, H x = some (.ins c.here dx [])
  | .cell r, x => ∃ dx, H x = some (.ins c.cell dx [("row", .int r)])
  | .shi r b o, x => ∃ dx, H x = some (.ins c.shi dx [("row", .int r), ("by", .int b), ("other", .int o)])
  | .loc a, x => ∃ dx, H x = some (.ins c.loc dx [("at", .int a)])
  | .at' r p, x => ∃ dx y, H x = some (.ins c.at' dx [("row", .int r), ("place", .ref y)]) ∧ FormAt c H p y
  | .pair sg l r, x => ∃ dx y z, H x = some (.ins c.pair dx [("sign", .str sg), ("left", .ref y), ("right", .ref z)]) ∧ FormAt c H l y ∧ FormAt c H r z
  | .cho t l r, x => ∃ dx u y z, H x = some (.ins c.cho dx [("test", .ref u), ("left", .ref y), ("right", .ref z)]) ∧ FormAt c H t u ∧ FormAt c H l y ∧ FormAt c H r z
  | .call a hs, x => ∃ dx l ys, H x = some (.ins c.call dx [("at", .int a), ("handed", .ref l)]) ∧ H l = some (.lst (ys.map V.ref)) ∧ FormsAt c H hs ys
def FormsAt (c : Cs) (H : Hp) : Fms → List Addr → Prop
  | .nil, ys => ys = []
  | .cons f r, ys => ∃ y t, ys = y :: t ∧ FormAt c H f y ∧ FormsAt c H r t
end
mutual
theorem FormAt.same {c : Cs} {H H' : Hp} (s : Same H H') : ∀ {F : Fm} {x : Addr}, FormAt c H F x → FormAt c H' F x
  | .num _, _, h => by obtain ⟨dx, h⟩ := h; exact ⟨dx, s _ _ h⟩
  | .here, _, h => by obtain ⟨dx, h⟩ := h; exact ⟨dx, s _ _ h⟩
  | .cell _, _, h => by obtain ⟨dx, h⟩ := h; exact ⟨dx, s _ _ h⟩
  | .shi _ _ _, _, h => by obtain ⟨dx, h⟩ := h; exact ⟨dx, s _ _ h⟩
  | .loc _, _, h => by obtain ⟨dx, h⟩ := h; exact ⟨dx, s _ _ h⟩
  | .at' _ _, _, h => by obtain ⟨dx, y, h, p⟩ := h; exact ⟨dx, y, s _ _ h, FormAt.same s p⟩
  | .pair _ _ _, _, h => by obtain ⟨dx, y, z, h, p, q⟩ := h; exact ⟨dx, y, z, s _ _ h, FormAt.same s p, FormAt.same s q⟩
  | .cho _ _ _, _, h => by obtain ⟨dx, u, y, z, h, o, p, q⟩ := h; exact ⟨dx, u, y, z, s _ _ h, FormAt.same s o, FormAt.same s p, FormAt.same s q⟩
  | .call _ _, _, h => by obtain ⟨dx, l, ys, h, e, p⟩ := h; exact ⟨dx, l, ys, s _ _ h, s _ _ e, FormsAt.same s p⟩
theorem FormsAt.same {c : Cs} {H H' : Hp} (s : Same H H') : ∀ {F : Fms} {ys : List Addr}, FormsAt c H F ys → FormsAt c H' F ys
  | .nil, _, h => h
  | .cons _ _, _, h => by obtain ⟨y, t, e, p, q⟩ := h; exact ⟨y, t, e, FormAt.same s p, FormsAt.same s q⟩
end
theorem FormsAt.len {c : Cs} {H : Hp} : ∀ {F : Fms} {ys : List Addr}, FormsAt c H F ys → ys.length = F.len
  | .nil, _, h => by cases (show _ = [] from h); rfl
  | .cons _ r, _, h => by
    obtain ⟨y, t, e, _, q⟩ := h
    subst e
    show t.length + 1 = r.len + 1
    rw [FormsAt.len q]
abbrev Fn := Nat × Fm
def bodyOf (fs : List Fn) (a : Int) : Fm := (fs.getD a.toNat (0, .here)).2
def handsOf (fs : List Fn) (a : Int) : Nat := (fs.getD a.toNat (0, .here)).1
structure FunsAt (c : Cs) (K : PySem.W.Frag) (H : Hp) (f : Addr) (fs : List Fn) : Prop where
  ex : ∃ ts : List Addr, SqL K H f (ts.map V.ref) ∧ ts.length = fs.length ∧ ∀ i, i < fs.length → ∃ b, SqT K H (ts.getD i 0) [.int ((fs.getD i (0, .here)).1 : Int), .ref b] ∧ FormAt c H (fs.getD i (0, .here)).2 b
theorem sqt_same {K : PySem.W.Frag} {H H' : Hp} {a : Addr} {xs : List V} (h : SqT K H a xs) (s : Same H H') : SqT K H' a xs := by
  rcases h with h | h
  · exact .inl (h.imp (fun z => s _ _ z) fun ⟨o, z⟩ => ⟨o, s _ _ z⟩)
  · exact .inr h
theorem FunsAt.same {c : Cs} {K : PySem.W.Frag} {H H' : Hp} {f : Addr} {fs : List Fn} (h : FunsAt c K H f fs) (s : Same H H') : FunsAt c K H' f fs := by
  obtain ⟨ts, a, b, d⟩ := h.ex
  exact ⟨ts, sql_same a s, b, fun i hi => let ⟨x, p, q⟩ := d i hi; ⟨x, sqt_same p s, q.same s⟩⟩
structure SpotAt (c : Cs) (K : PySem.W.Frag) (H : Hp) (x : Addr) (S : SpotD) (fs : List Fn) : Prop where
  ex : ∃ dx l f e o, H x = some (.ins c.spot dx [("lengths", .ref l), ("functions", .ref f), ("cells", .ref e), ("place", .int S.place), ("own", .ref o)]) ∧ SqL K H l (S.lens.map V.int) ∧ FunsAt c K H f fs ∧ SqL K H e (S.cells.map V.int) ∧ SqL K H o (S.own.map V.int)
theorem SpotAt.same {c : Cs} {K : PySem.W.Frag} {H H' : Hp} {x : Addr} {S : SpotD} {fs : List Fn} (s : Same H H') (h : SpotAt c K H x S fs) : SpotAt c K H' x S fs := by
  obtain ⟨dx, l, f, e, o, h1, h2, h3, h4, h5⟩ := h.ex
  exact ⟨dx, l, f, e, o, s _ _ h1, sql_same h2 s, h3.same s, sql_same h4 s, sql_same h5 s⟩
theorem SpotAt.old {c : Cs} {K : PySem.W.Frag} {H : Hp} {x : Addr} {S : SpotD} {fs : List Fn} (h : SpotAt c K H x S fs) : FM.SpotAt c.toCs K H x S := by
  obtain ⟨dx, l, f, e, o, h1, h2, h3, h4, h5⟩ := h.ex
  exact ⟨dx, l, f, e, o, h1, h2, h4, h5⟩
inductive RL | ok (l : List Int) | bad (e : Res)
mutual
def ev (cl : Int → List Int → Res) (S : SpotD) : Fm → Res
  | .num n => .ok n
  | .here => .ok S.place
  | .cell r => if S.len r = 1 then .ok (S.cellAt r 0) else .ok (S.cellAt r S.place)
  | .shi r b o => if 0 ≤ S.place + b ∧ S.place + b < S.len r then .ok (S.cellAt r (S.place + b)) else .ok o
  | .loc a => .ok (S.own.getD a.toNat 0)
  | .at' r p => match ev cl S p with
    | .ok q => if 0 ≤ q ∧ q < S.len r then .ok (S.cellAt r q) else .outside
    | e => e
  | .pair sg l r => match ev cl S l with
    | .ok a => (match ev cl S r with
      | .ok b => (match FM.doneR sg a b with
        | some n => .ok n
        | none => .nought)
      | e => e)
    | e => e
  | .cho t l r => match ev cl S t with
    | .ok a => if a ≠ 0 then ev cl S l else ev cl S r
    | e => e
  | .call a hs => match evs cl S hs with
    | .ok l => cl a l
    | .bad e => e
def evs (cl : Int → List Int → Res) (S : SpotD) : Fms → RL
  | .nil => .ok []
  | .cons f r => match ev cl S f with
    | .ok n => (match evs cl S r with
      | .ok l => .ok (n :: l)
      | .bad e => .bad e)
    | e => .bad e
end
def callK (fs : List Fn) (S : SpotD) : Nat → Int → List Int → Res
  | 0, _, _ => .outside
  | k + 1, a, l => ev (callK fs S k) { S with own := l } (bodyOf fs a)
abbrev worth (fs : List Fn) (k : Nat) (S : SpotD) (F : Fm) : Res := ev (callK fs S k) S F
mutual
def WF (fs : List Fn) (k : Nat) (S : SpotD) : Fm → Prop
  | .num n => Kin n
  | .here => True
  | .cell r => S.has r ∧ 1 ≤ S.len r ∧ (S.len r ≠ 1 → 0 ≤ S.place ∧ S.place < S.len r)
  | .shi r _ o => S.has r ∧ Kin o
  | .loc a => 0 ≤ a ∧ a.toNat < S.own.length
  | .at' r p => S.has r ∧ WF fs k S p
  | .pair sg l r => sg ∈ FM.signs ∧ WF fs k S l ∧ WF fs k S r
  | .cho t l r => WF fs k S t ∧ WF fs k S l ∧ WF fs k S r
  | .call a hs => 0 ≤ a ∧ a.toNat < k ∧ a.toNat < fs.length ∧ hs.len = handsOf fs a ∧ WFs fs k S hs
def WFs (fs : List Fn) (k : Nat) (S : SpotD) : Fms → Prop
  | .nil => True
  | .cons f r => WF fs k S f ∧ WFs fs k S r
end
def Bodies (fs : List Fn) : Prop := ∀ (a : Int) (S : SpotD) (l : List Int), 0 ≤ a → a.toNat < fs.length → l.length = handsOf fs a → WF fs a.toNat { S with own := l } (bodyOf fs a)
mutual
theorem WF.mono {fs : List Fn} {j k : Nat} {S : SpotD} (h : j ≤ k) : ∀ {F : Fm}, WF fs j S F → WF fs k S F
  | .num _, w => w
  | .here, w => w
  | .cell _, w => w
  | .shi _ _ _, w => w
  | .loc _, w => w
  | .at' _ _, w => ⟨w.1, WF.mono h w.2⟩
  | .pair _ _ _, w => ⟨w.1, WF.mono h w.2.1, WF.mono h w.2.2⟩
  | .cho _ _ _, w => ⟨WF.mono h w.1, WF.mono h w.2.1, WF.mono h w.2.2⟩
  | .call _ _, w => ⟨w.1, by have := w.2.1; omega, w.2.2.1, w.2.2.2.1, WFs.mono h w.2.2.2.2⟩
theorem WFs.mono {fs : List Fn} {j k : Nat} {S : SpotD} (h : j ≤ k) : ∀ {F : Fms}, WFs fs j S F → WFs fs k S F
  | .nil, _ => trivial
  | .cons _ _, w => ⟨WF.mono h w.1, WFs.mono h w.2⟩
end
mutual
theorem ev_mono {fs : List Fn} (hb : Bodies fs) {S T : SpotD} {j k k' : Nat} (h1 : j ≤ k) (h2 : j ≤ k') (ih : ∀ a l, 0 ≤ a → a.toNat < j → a.toNat < fs.length → l.length = handsOf fs a → callK fs T k a l = callK fs T k' a l) : ∀ {F : Fm}, WF fs j S F → ev (callK fs T k) S F = ev (callK fs T k') S F
  | .num _, _ => rfl
  | .here, _ => rfl
  | .cell _, _ => rfl
  | .shi _ _ _, _ => rfl
  | .loc _, _ => rfl
  | .at' r p, w => by unfold ev; rw [ev_mono hb h1 h2 ih w.2]
  | .pair sg l r, w => by unfold ev; rw [ev_mono hb h1 h2 ih w.2.1, ev_mono hb h1 h2 ih w.2.2]
  | .cho t l r, w => by unfold ev; rw [ev_mono hb h1 h2 ih w.1, ev_mono hb h1 h2 ih w.2.1, ev_mono hb h1 h2 ih w.2.2]
  | .call a hs, w => by
    unfold ev
    obtain ⟨e, el⟩ := evs_mono hb h1 h2 ih w.2.2.2.2
    rw [e]
    cases z : evs (callK fs T k') S hs with
    | bad _ => rfl
    | ok l =>
      exact ih a l w.1 w.2.1 w.2.2.1 (by rw [el l z]; exact w.2.2.2.1)
theorem evs_mono {fs : List Fn} (hb : Bodies fs) {S T : SpotD} {j k k' : Nat} (h1 : j ≤ k) (h2 : j ≤ k') (ih : ∀ a l, 0 ≤ a → a.toNat < j → a.toNat < fs.length → l.length = handsOf fs a → callK fs T k a l = callK fs T k' a l) : ∀ {F : Fms}, WFs fs j S F → evs (callK fs T k) S F = evs (callK fs T k') S F ∧ ∀ l, evs (callK fs T k') S F = .ok l → l.length = F.len
  | .nil, _ => ⟨rfl, fun l e => by cases (show RL.ok [] = RL.ok l from e); rfl⟩
  | .cons f r, w => by
    have e1 := ev_mono hb h1 h2 ih w.1
    obtain ⟨e2, el⟩ := evs_mono hb h1 h2 ih w.2
    refine ⟨by unfold evs; rw [e1, e2], fun l e => ?_⟩
    unfold evs at e
    split at e
    · split at e
      · rename_i l' z
        cases e
        show l'.length + 1 = r.len + 1
        rw [el l' z]
      · cases e
    · cases e
end
theorem callK_own {fs : List Fn} {S : SpotD} {m : List Int} : ∀ k, callK fs { S with own := m } k = callK fs S k
  | 0 => rfl
  | k + 1 => by
    funext a l
    show ev (callK fs { S with own := m } k) { S with own := l } (bodyOf fs a) = ev (callK fs S k) { S with own := l } (bodyOf fs a)
    rw [callK_own k]
theorem evs_bad {cl : Int → List Int → Res} {S : SpotD} (n : Int) : ∀ {F : Fms}, evs cl S F ≠ .bad (.ok n)
  | .nil => fun e => by cases (show RL.ok [] = RL.bad _ from e)
  | .cons f r => fun e => by
    unfold evs at e
    split at e
    · split at e
      · cases e
      · rename_i e' z
        cases e
        exact evs_bad n z
    · rename_i e' z
      injection e with e
      exact z n e
mutual
theorem ev_kin {fs : List Fn} {S : SpotD} (o : FM.SpotOk S) {k : Nat} {cl : Int → List Int → Res} (hc : ∀ a l n, 0 ≤ a → a.toNat < k → a.toNat < fs.length → l.length = handsOf fs a → (∀ v ∈ l, Kin v) → cl a l = .ok n → Kin n) : ∀ {F : Fm} {n : Int}, WF fs k S F → ev cl S F = .ok n → Kin n
  | .num _, _, h, e => by cases (show FM.Res.ok _ = FM.Res.ok _ from e); exact h
  | .here, _, _, e => by cases (show FM.Res.ok _ = FM.Res.ok _ from e); exact o.pl
  | .cell r, n, h, e => by
    unfold ev at e
    split at e
    · rename_i z; cases e; exact (FM.cell_in o h.1 (by omega) (by omega)).2.2
    · rename_i z; cases e; exact (FM.cell_in o h.1 (h.2.2 z).1 (h.2.2 z).2).2.2
  | .shi r b o', n, h, e => by
    unfold ev at e
    split at e
    · rename_i z; cases e; exact (FM.cell_in o h.1 z.1 z.2).2.2
    · cases e; exact h.2
  | .loc a, n, h, e => by cases (show FM.Res.ok _ = FM.Res.ok _ from e); exact o.ok' _ (L2.getD_mem h.2)
  | .at' r p, n, h, e => by
    unfold ev at e
    split at e
    · rename_i q hq
      split at e
      · rename_i z; cases e; exact (FM.cell_in o h.1 z.1 z.2).2.2
      · cases e
    · rename_i e' hq; exact absurd e (hq n)
  | .pair sg l r, n, h, e => by
    unfold ev at e
    split at e
    · rename_i a ha
      split at e
      · rename_i b hb
        split at e
        · rename_i m hm; cases e; exact FM.done_in h.1 (ev_kin o hc h.2.1 ha) (ev_kin o hc h.2.2 hb) hm
        · cases e
      · rename_i e' hq; exact absurd e (hq n)
    · rename_i e' hq; exact absurd e (hq n)
  | .cho t l r, n, h, e => by
    unfold ev at e
    split at e
    · split at e
      · exact ev_kin o hc h.2.1 e
      · exact ev_kin o hc h.2.2 e
    · rename_i e' hq; exact absurd e (hq n)
  | .call a hs, n, h, e => by
    unfold ev at e
    split at e
    · rename_i l z
      obtain ⟨q1, q2⟩ := evs_kin o hc h.2.2.2.2 z
      exact hc a l n h.1 h.2.1 h.2.2.1 (by rw [q1]; exact h.2.2.2.1) q2 e
    · rename_i e' z
      cases e'
      · exact absurd z (evs_bad _)
      · cases e
      · cases e
theorem evs_kin {fs : List Fn} {S : SpotD} (o : FM.SpotOk S) {k : Nat} {cl : Int → List Int → Res} (hc : ∀ a l n, 0 ≤ a → a.toNat < k → a.toNat < fs.length → l.length = handsOf fs a → (∀ v ∈ l, Kin v) → cl a l = .ok n → Kin n) : ∀ {F : Fms} {l : List Int}, WFs fs k S F → evs cl S F = .ok l → l.length = F.len ∧ ∀ v ∈ l, Kin v
  | .nil, l, _, e => by cases (show RL.ok [] = RL.ok l from e); exact ⟨rfl, fun v hv => nomatch hv⟩
  | .cons f r, l, h, e => by
    unfold evs at e
    split at e
    · rename_i n hn
      split at e
      · rename_i l' z
        cases e
        obtain ⟨q1, q2⟩ := evs_kin o hc h.2 z
        refine ⟨by show l'.length + 1 = r.len + 1; rw [q1], fun v hv => ?_⟩
        rcases List.mem_cons.mp hv with rfl | hv
        · exact ev_kin o hc h.1 hn
        · exact q2 v hv
      · cases e
    · cases e
end
end F2
namespace F2
open PySem L2
abbrev SpotOk := FM.SpotOk
theorem SpotOk.hand {S : SpotD} (o : FM.SpotOk S) {l : List Int} (h : ∀ v ∈ l, Kin v) : FM.SpotOk { S with own := l } := ⟨o.ln, o.tot, o.ck, h, o.pl⟩
theorem call_kin {fs : List Fn} (hb : Bodies fs) {S : SpotD} (o : FM.SpotOk S) : ∀ (k : Nat) (a : Int) (l : List Int) (n : Int), 0 ≤ a → a.toNat < k → a.toNat < fs.length → l.length = handsOf fs a → (∀ v ∈ l, Kin v) → callK fs S k a l = .ok n → Kin n
  | 0, _, _, _, _, h, _, _, _, _ => absurd h (Nat.not_lt_zero _)
  | k + 1, a, l, n, h0, h1, h2, h3, h4, e => by
    have e : ev (callK fs S k) { S with own := l } (bodyOf fs a) = .ok n := e
    exact ev_kin (fs := fs) (k := k) (SpotOk.hand o h4) (fun a l n x0 x1 x2 x3 x4 x5 => call_kin hb o k a l n x0 x1 x2 x3 x4 x5) (WF.mono (by omega) (hb a S l h0 h2 h3)) e
theorem worth_kin {fs : List Fn} (hb : Bodies fs) {S : SpotD} (o : FM.SpotOk S) {k : Nat} {F : Fm} {n : Int} (w : WF fs k S F) (e : worth fs k S F = .ok n) : Kin n := ev_kin (fs := fs) (k := k) o (fun a l n x0 x1 x2 x3 x4 x5 => call_kin hb o k a l n x0 x1 x2 x3 x4 x5) w e
abbrev Out := FM.Out
def Worth (P : Program) (w : World) (K : PySem.W.Frag) (mg : Str → Option Value) (base : Heap) (c : Cs) (CN OU : Addr) (rm : Nat) (fs : List Fn) (k : Nat) (F : Fm) : Prop :=
  ∀ (x : Addr) (H : Hp), FormAt c H F x → ∃ C dx f sp, H x = some (.ins C dx f) ∧ DispX P w K mg base (CXe P w base) rm "worth" C sp ∧ f.lookup ("worth" : Str) = none ∧
    ∀ (s : Addr) (S : SpotD) (Q : VK) (E : XK) (H' : Hp), Same H H' → SpotAt c K H' s S fs → FM.SpotOk S → WF fs k S F → FM.Out CN OU (worth fs k S F) H' Q E → sp [.ref x, .ref s] H' Q E
theorem Worth.mono {P : Program} {w : World} {K : PySem.W.Frag} {mg : Str → Option Value} {base : Heap} {c : Cs} {CN OU : Addr} {j rm : Nat} {fs : List Fn} {k : Nat} {F : Fm} (h : Worth P w K mg base c CN OU j fs k F) (l : j ≤ rm) : Worth P w K mg base c CN OU rm fs k F := fun x H q => by
  obtain ⟨C, dx, f, sp, a, b, d, e⟩ := h x H q
  exact ⟨C, dx, f, sp, a, b.mono l, d, e⟩
def Fms.drop : Nat → Fms → Fms
  | 0, h => h
  | _ + 1, .nil => .nil
  | n + 1, .cons _ r => r.drop n
def Fms.All (p : Fm → Prop) : Fms → Prop
  | .nil => True
  | .cons f r => p f ∧ r.All p
theorem FormsAt.get {c : Cs} {H : Hp} {p : Fm → Prop} {fs : List Fn} {k : Nat} {S : SpotD} : ∀ {F : Fms} {ys : List Addr} {i : Nat} {y : Addr}, FormsAt c H F ys → F.All p → WFs fs k S F → ys[i]? = some y → ∃ f, F.drop i = .cons f (F.drop (i + 1)) ∧ FormAt c H f y ∧ p f ∧ WF fs k S f
  | .nil, ys, i, y, h, _, _, e => by
    cases (show ys = [] from h)
    cases e
  | .cons f r, ys, 0, y, h, a, w, e => by
    obtain ⟨y', t, rfl, q, _⟩ := h
    cases (show some y' = some y from e)
    exact ⟨f, rfl, q, a.1, w.1⟩
  | .cons f r, ys, i + 1, y, h, a, w, e => by
    obtain ⟨y', t, rfl, _, q⟩ := h
    exact FormsAt.get (F := r) (i := i) q a.2 w.2 e
theorem drop_all : ∀ {F : Fms}, F.drop F.len = .nil
  | .nil => rfl
  | .cons _ r => drop_all (F := r)
def RL.pre (l : List Int) : RL → RL
  | .ok m => .ok (l ++ m)
  | .bad e => .bad e
theorem pre_nil {r : RL} : r.pre [] = r := by cases r <;> rfl
theorem evs_cons {cl : Int → List Int → Res} {S : SpotD} {f : Fm} {r : Fms} : evs cl S (.cons f r) = (match ev cl S f with
    | .ok n => (match evs cl S r with
      | .ok l => .ok (n :: l)
      | .bad e => .bad e)
    | e => .bad e) := by
  conv => lhs; unfold evs
  all_goals rfl
theorem worth_call {fs : List Fn} {k : Nat} {S : SpotD} {a : Int} {gs : Fms} : worth fs k S (.call a gs) = (match evs (callK fs S k) S gs with
    | .ok l => callK fs S k a l
    | .bad e => e) := by
  conv => lhs; unfold worth ev
  all_goals rfl
theorem pre_step {cl : Int → List Int → Res} {S : SpotD} {f : Fm} {r : Fms} {l : List Int} {n : Int} (h : ev cl S f = .ok n) : (evs cl S (.cons f r)).pre l = (evs cl S r).pre (l ++ [n]) := by
  rw [evs_cons, h]
  cases evs cl S r with
  | ok m => show RL.ok (l ++ n :: m) = RL.ok (l ++ [n] ++ m); rw [List.append_assoc]; rfl
  | bad e => rfl
theorem pre_bad {cl : Int → List Int → Res} {S : SpotD} {f : Fm} {r : Fms} {l : List Int} {e : Res} (h : ev cl S f = e) (hb : ∀ n, e ≠ .ok n) : (evs cl S (.cons f r)).pre l = .bad e := by
  rw [evs_cons, h]
  cases e with
  | ok n => exact absurd rfl (hb n)
  | nought => rfl
  | outside => rfl
end F2
namespace L2
open PySem PySem.Spec PyProof.Rows
section
variable {prog : Program} {w : World} {A : Around} {R : Result → Shared → Prop} {s : Shared}
theorem comp_loopF {elt target iter tst : Expr} {scope : Scope} {pos : Pos} {it acc : Value} {env : Env} (I : Nat → Shared → Prop)
    (turn : ∀ n s, I n s → wpAny (model prog w) A (pyNext it) (fun r s₁ => match r with
      | none => R (.ok .next) s₁
      | some v => wpAny (model prog w) A (letOwnedTupleGo target it v) (fun _ s₂ => wpAny (model prog w) A (assign target env v) (fun _ s₃ => wpAny (model prog w) A (isTrue tst env (eval tst env)) (fun ok t₃ => match ok with
          | true => wpAny (model prog w) A (eval elt env) (fun x s₄ => wpAny (model prog w) A (call (.builtin "list.append") [acc, x]) (fun _ s₅ => ∃ m, m < n ∧ I m s₅) (fun _ _ => False) s₄) (fun _ _ => False) t₃
          | false => ∃ m, m < n ∧ I m t₃) (fun _ _ => False) s₃) (fun _ _ => False) s₂) (fun _ _ => False) s₁) (fun _ _ => False) s)
    (n : Nat) (h : I n s) : codeAny (model prog w) A (.compLoop (.ListComp elt [⟨target, iter, [tst], 0⟩] scope pos) 0 it acc env) R s := by
  refine codeAny_loop rfl I (fun n s hI => ?_) n h
  show wpAny _ _ ((compTurn (.ListComp elt [⟨target, iter, [tst], 0⟩] scope pos) 0 it acc env).onRaise (fun x => do noteFrame x env; theTreesLotGoes x)) _ _ s
  refine wpAny_noted ?_
  rw [compTurn_list]
  refine wpAny_bind (wpAny_standAt (wpAny_bind (wpAny_mono (turn n s hI) (fun r s₁ h₁ => ?_) fun _ _ z => z.elim)))
  cases r with
  | none => exact wpAny_pure h₁
  | some v =>
    refine wpAny_bind (wpAny_mono h₁ (fun _ s₂ h₂ => ?_) fun _ _ z => z.elim)
    refine wpAny_bind (wpAny_mono h₂ (fun _ s₃ h₃ => ?_) fun _ _ z => z.elim)
    refine wpAny_bind (wpAny_tests_one (wpAny_mono h₃ (fun ok t₃ h₃ => ?_) fun _ _ z => z.elim))
    cases ok with
    | false => exact wpAny_pure ⟨rfl, h₃⟩
    | true =>
      refine wpAny_bind (wpAny_bind (wpAny_mono h₃ (fun x s₄ h₄ => ?_) fun _ _ z => z.elim))
      exact wpAny_bind (wpAny_mono h₄ (fun _ s₅ h₅ => wpAny_pure (wpAny_pure ⟨rfl, h₅⟩)) fun _ _ z => z.elim)
end
def CompWF (J : It) (g : TG) (tt : TT) (te : TE) (σY : St) (H1 : Hp) (D : Addr) (Q : VK) : Prop := ∃ W : Nat → Nat → St → Hp → Prop, (∃ m, W 0 m σY H1) ∧ ∀ i m σ' H', W i m σ' H' →
  (J.stop i H' ∧ Q (.ref D) H') ∨ (J.go i H' ∧ ∃ N : St → Hp → Prop, (∀ σ2 H2, N σ2 H2 → ∃ m', m' < m ∧ W (i + 1) m' σ2 H2) ∧
    ∀ x H2, J.yld i H' x H2 → g x σ' H2 fun σ3 H3 => tt σ3 H3 fun b H4 => if b = true then te σ3 H4 fun v H5 => ∃ xs, H5 D = some (.lst xs) ∧ xs.length < sizeLine ∧ N σ3 (upd H5 D (.lst (xs ++ [v]))) else N σ3 H4)
def tCompF (wi : TI) (g : TG) (tt : TT) (te : TE) (σ0 : St → Hp → St → Prop) : TE := fun σ H Q => wi σ H fun J H1 => ∃ σY, σ0 σ H1 σY ∧ ∀ D, H1 D = none → CompWF J g tt te σY (upd H1 D (.lst [])) D Q
section
variable {X : Cx} {tg : Expr}
theorem comp_coreF {iter elt tst : Expr} {scope : Scope} {pos pos' : Pos} {cl : List (Str × Addr)} {NY : List Str} {wi : TI} {g : TG} {tt : TT} {te : TE} {σ0 : St → Hp → St → Prop} (hc : X.calm = true) (S : Sees X scope cl) (hi : PI X tg iter wi)
    (hY : ∀ (s3 : Shared) (H3 : Hp) (fp : List Addr), PG (X.comp scope cl NY s3 H3 fp) tg g ∧ PT (X.comp scope cl NY s3 H3 fp) tst tt ∧ PE (X.comp scope cl NY s3 H3 fp) elt te)
    (h0 : ∀ (pins : List (Addr × Obj)) (σ : St) (H : Hp) (s3 : Shared) (σY : St), Inv X pins σ H s3 → σ0 σ H σY → σY.length = NY.length ∧ ∀ (i : Nat) (x : Str) (v : V), NY[i]? = some x → σY[i]? = some (some v) →
      ∃ c u, (((compEnvC scope cl 0 X.env).kindOf x = some .cell ∨ (compEnvC scope cl 0 X.env).kindOf x = some .free)) ∧ cl.lookup x = some c ∧ RelV v u ∧ s3.heap.IsCell c (some u))
    (hs : ∀ x, foldedSetIterable iter X.env x = pure x) {use : Option (Value → Sem Unit)} {R : Value → Shared → Prop} {pins : List (Addr × Obj)} {s : Shared} {σ : St} {H : Hp} {Q : VK} (I : Inv X pins σ H s) (h : tCompF wi g tt te σ0 σ H Q)
    (fin : ∀ (C D : Addr) (H5 : Hp) (s6 : Shared), CompEnd X pins σ H5 s6 C → Q (.ref D) H5 → compPost (model X.prog X.w) X.A X.xe use R (.ref D) C (.ok .next) s6) :
    wpAny (model X.prog X.w) X.A (comprehension (.ListComp elt [⟨tg, iter, [tst], 0⟩] scope pos) scope X.env pos' (newList []) (firstAsync [⟨tg, iter, [tst], 0⟩]) (firstIter [⟨tg, iter, [tst], 0⟩] X.env) use) R X.xe s := by
  refine wpAny_comprehension_free rfl hs S.clos S.kind S.names (thn (hi pins s σ H _ I h) fun v s1 h1 => thn h1 fun itv s2 h2 => ?_)
  obtain ⟨it, fp, tn, J, H2, e, I2, T, st2, f2, σY, hσ, hW⟩ := h2
  subst e
  refine wpAny_newObj_type ?_
  have I3 : Inv X pins σ (upd H2 s2.heap.objs.size (.lst [])) { s2 with heap := s2.heap.push { cls := .type "list", data := .seq ([] : List Value).toArray } } := I2.lnew (t' := s2.toks) (its := []) .nil (Nat.zero_le _)
  obtain ⟨W, ⟨m0, w0⟩, turn⟩ := hW s2.heap.objs.size (I2.hok.fresh (Nat.le_refl _))
  have ob2 := T.obj _ _ st2
  have hfp : ∀ b ∈ fp, FpOk X pins (upd H2 s2.heap.objs.size (.lst [])) b := fun b hb => by
    obtain ⟨o, q, _⟩ := ob2 b hb
    exact ⟨by rw [upd_ne (Nat.ne_of_lt (Heap.lt_size q))]; exact (f2 b hb).1, (f2 b hb).2⟩
  have hob : ∀ b ∈ fp, ∃ o, (s2.heap.push { cls := .type "list", data := .seq ([] : List Value).toArray }).get? b = some o := fun b hb => by
    obtain ⟨o, q, _⟩ := ob2 b hb
    exact ⟨o, Heap.get?_push_of_some _ q⟩
  refine wpAny_newFunctionEnv S.nocell (fun y hy => absurd hy (by simp)) (fun h1 hn1 hs1 => ?_) S.kind
  obtain ⟨hl, hY0⟩ := h0 pins σ H2 s2 σY I2 hσ
  have k23 : ∀ b o, s2.heap.get? b = some o → (s2.heap.push { cls := .type "list", data := .seq ([] : List Value).toArray }).get? b = some o := fun b o q => Heap.get?_push_of_some _ q
  have k34 : ∀ b o, (s2.heap.push { cls := .type "list", data := .seq ([] : List Value).toArray }).get? b = some o → h1.get? b = some o := fun b o q => (hs1.2 b (Nat.ne_of_lt (Heap.lt_size q))).trans (Heap.get?_push_of_some _ q)
  have I4 := comp_inv (scope := scope) (cl := cl) (NY := NY) (fp := fp) (h1 := h1) (t := s2.toks) (σY := σY) I3 S hfp hob hn1 k34 hl fun i x v e1 e2 => by
    obtain ⟨c, u, k, q, r, o, z1, z2⟩ := hY0 i x v e1 e2
    exact ⟨c, u, k, q, r, o, k23 _ _ z1, z2⟩
  have st4 : tn 0 h1 := T.keep _ _ _ st2 fun b hb o q => k34 _ _ (k23 _ _ q)
  have fr4 : ∀ b ∈ fp, (upd H2 s2.heap.objs.size (.lst [])) b = none := fun b hb => (hfp b hb).1
  obtain ⟨hg, ht, he⟩ := hY { s2 with heap := s2.heap.push { cls := .type "list", data := .seq ([] : List Value).toArray } } (upd H2 s2.heap.objs.size (.lst [])) fp
  have okY := I4.ok
  have statY : ∀ {H' : Hp}, (∀ b ∈ fp, H' b = none) → ∀ b ∈ fp, FpOk (X.comp scope cl NY { s2 with heap := s2.heap.push { cls := .type "list", data := .seq ([] : List Value).toArray } } (upd H2 s2.heap.objs.size (.lst [])) fp) [] H' b :=
    fun hn b hb => ⟨hn b hb, (okY.exf b hb).1, okY.exfs b hb, .inl hb, (okY.exf b hb).2, fun p hp => absurd hp (by simp)⟩
  have loop : codeAny (model X.prog X.w) X.A (.compLoop (.ListComp elt [⟨tg, iter, [tst], 0⟩] scope pos) 0 (.ref it) (.ref s2.heap.objs.size) (compEnvC scope cl (s2.heap.push { cls := .type "list", data := .seq ([] : List Value).toArray }).objs.size X.env))
      (compPost (model X.prog X.w) X.A X.xe use R (.ref s2.heap.objs.size) (s2.heap.push { cls := .type "list", data := .seq ([] : List Value).toArray }).objs.size) { s2 with heap := h1, toks := s2.toks } := by
    refine comp_loopF (fun n s' => ∃ i σ' H', Inv (X.comp scope cl NY { s2 with heap := s2.heap.push { cls := .type "list", data := .seq ([] : List Value).toArray } } (upd H2 s2.heap.objs.size (.lst [])) fp) [] σ' H' s' ∧ tn i s'.heap ∧ (∀ b ∈ fp, H' b = none) ∧ W i n σ' H') ?_ m0 ⟨0, σY, _, I4, st4, fr4, w0⟩
    rintro n s5 ⟨i, σ5, H5, I5, st5, fr5, w5⟩
    rcases turn i n σ5 H5 w5 with ⟨stop, q⟩ | ⟨go, N, hN, step⟩
    · refine thn (T.done (X.comp scope cl NY { s2 with heap := s2.heap.push { cls := .type "list", data := .seq ([] : List Value).toArray } } (upd H2 s2.heap.objs.size (.lst [])) fp) rfl rfl rfl hc i [] s5 σ5 H5 _ I5 (statY fr5) st5 stop) fun r s6 ⟨hr, I6⟩ => ?_
      subst hr
      obtain ⟨m, hm, _⟩ := I6.loc
      refine fin _ _ H5 s6 ⟨⟨m, hm⟩, I6.free, Ne.symm (Nat.ne_of_lt I3.lt), I3.sz, fun x c z => ?_, fun p hp => ?_, fun h' hs' => comp_back I3 hfp I6 hs'⟩ q
      · obtain ⟨_, o, z1, _⟩ := I3.cell x c z
        exact Nat.ne_of_lt (Heap.lt_size z1)
      · exact Nat.ne_of_lt (Heap.lt_size (I3.pin p hp).1)
    · refine thn (T.item (X.comp scope cl NY { s2 with heap := s2.heap.push { cls := .type "list", data := .seq ([] : List Value).toArray } } (upd H2 s2.heap.objs.size (.lst [])) fp) rfl rfl rfl hc i [] s5 σ5 H5 _ I5 (statY fr5) st5 go) fun r s6 ⟨u, hr, h6⟩ => ?_
      subst hr
      refine thn h6 fun _ s7 ⟨x, H7, I7, r7, y7, st7, fr7⟩ => ?_
      have I7' := I7.pinned (statY fr7) (T.obj _ _ st7)
      refine thn (hg _ s7 σ5 H7 x u _ I7' r7 (step x H7 y7)) fun _ s8 ⟨σ8, H8, I8, q8⟩ => ?_
      have pk : ∀ {H' : Hp} {s' : Shared} {σ' : St}, Inv (X.comp scope cl NY { s2 with heap := s2.heap.push { cls := .type "list", data := .seq ([] : List Value).toArray } } (upd H2 s2.heap.objs.size (.lst [])) fp) ([] ++ pinsAt fp s7.heap) σ' H' s' → tn (i + 1) s'.heap ∧ ∀ b ∈ fp, H' b = none := fun I' => by
        refine ⟨T.keep _ _ _ st7 fun b hb o q => (I'.pin (b, o) (List.mem_append_right _ (List.mem_append_right _ (mem_pinsAt hb q)))).1, fun b hb => ?_⟩
        obtain ⟨o, q, d⟩ := T.obj _ _ st7 b hb
        exact (I'.pin (b, o) (List.mem_append_right _ (List.mem_append_right _ (mem_pinsAt hb q)))).2.1
      refine thn (ht _ s8 σ8 H8 _ I8 q8) fun bb s8' ⟨H8', I8', q8'⟩ => ?_
      cases bb with
      | false =>
        have q8' := (show N σ8 H8' by simpa using q8')
        obtain ⟨m', hm, w10⟩ := hN _ _ q8'
        exact ⟨m', hm, i + 1, σ8, _, I8'.unpinned, (pk I8').1, (pk I8').2, w10⟩
      | true =>
        have q8' := (show te σ8 H8' _ by simpa using q8')
        refine thn (he _ s8' σ8 H8' _ I8' q8') fun z s9 ⟨v9, H9, I9, r9, xs, hx9, hz9, n9⟩ => ?_
        refine thn (mt_append _ s9 σ8 H9 (.ref s2.heap.objs.size) [v9] (.ref s2.heap.objs.size) [z] (fun _ H' => H' = upd H9 s2.heap.objs.size (.lst (xs ++ [v9]))) I9 rfl (.cons r9 .nil) ⟨s2.heap.objs.size, xs, v9, rfl, rfl, hx9, hz9, rfl⟩) fun y s10 ⟨v10, H10, I10, _, e10⟩ => ?_
        subst e10
        obtain ⟨m', hm, w10⟩ := hN _ _ n9
        exact ⟨m', hm, i + 1, σ8, _, I10.unpinned, (pk I10).1, (pk I10).2, w10⟩
  exact codeAny_compStart_list loop (T.self _ 0 _ _ _ st4 loop)
theorem ps_compF0 {iter elt tst : Expr} {scope : Scope} {pos pos' spos : Pos} {cl : List (Str × Addr)} {NY : List Str} {wi : TI} {g : TG} {tt : TT} {te : TE} {σ0 : St → Hp → St → Prop} {i : Nat} {y : Str} (hc : X.calm = true) (S : ∀ {pins σ H s}, Inv X pins σ H s → Sees X scope cl) (hi : PI X tg iter wi)
    (hY : ∀ (s3 : Shared) (H3 : Hp) (fp : List Addr), PG (X.comp scope cl NY s3 H3 fp) tg g ∧ PT (X.comp scope cl NY s3 H3 fp) tst tt ∧ PE (X.comp scope cl NY s3 H3 fp) elt te)
    (h0 : ∀ (pins : List (Addr × Obj)) (σ : St) (H : Hp) (s3 : Shared) (σY : St), Inv X pins σ H s3 → σ0 σ H σY → σY.length = NY.length ∧ ∀ (i : Nat) (x : Str) (v : V), NY[i]? = some x → σY[i]? = some (some v) →
      ∃ c u, (((compEnvC scope cl 0 X.env).kindOf x = some .cell ∨ (compEnvC scope cl 0 X.env).kindOf x = some .free)) ∧ cl.lookup x = some c ∧ RelV v u ∧ s3.heap.IsCell c (some u))
    (hs : ∀ x, foldedSetIterable iter X.env x = pure x) (hN : X.N.Nodup) (hi' : X.N[i]? = some y) (hx : Loc X.env.scope y) (hf : X.fn y = true ∨ X.env.scope.names.lookup y = some .local)
    (hw : swapsWith (.ListComp elt [⟨tg, iter, [tst], 0⟩] scope pos) (some (.Name y pos')) spos.line X.env = pure true) : PS X (.Assign [.Name y pos'] (.ListComp elt [⟨tg, iter, [tst], 0⟩] scope pos) spos) (tAsg (tCompF wi g tt te σ0) (gName i)) := by
  intro pins s σ H D I h
  rw [exec_Assign_Name_used _ _ _ _ hw, arm_evalThenUse_ListComp]
  refine wpAny_bind (wpAny_standAt (wpAny_bind (wpAny_bind (wpAny_mono (comp_coreF (use := some (assign (.Name y pos') X.env)) (R := fun _ s' => SP X pins D .next s') hc (S I) hi hY h0 hs I h fun C L H5 s6 e q => ?_) (fun _ s' z => wpAny_pure (wpAny_pure z)) fun _ _ z => z))))
  obtain ⟨m, hm⟩ := e.ns
  have I6 : Inv X pins σ H5 s6 := e.inv s6.heap ⟨rfl, fun _ _ => rfl⟩
  refine wpAny_assign_Name (store_ok2 I6 hN hi' hx (v := .ref L) rfl (fun s' I' ⟨a, sb, ha⟩ => ?_) hf)
  have ne : C ≠ a := by
    rintro rfl
    rcases ha with z | z
    · exact e.hL z
    · exact e.h2 _ _ z rfl
  refine ⟨m, ?_, fun h' hs' => ?_⟩
  · obtain ⟨o, es, ep, z, r⟩ := hm
    exact ⟨o, es, ep, (sb.2 _ ne).trans z, r⟩
  · exact ⟨_, H5, I'.turned (t' := s'.toks) (it := C) (fun b o nb z => (hs'.2 b nb).trans z) e.hn e.hL (.inr e.h1) e.h2 e.h3, q⟩
end
abbrev tCompFC (wi : TI) (g : TG) (tt : TT) (te : TE) (cap : List (Option Nat)) : TE := tCompF wi g tt te fun σ _ σY => σY = capt cap σ
section
variable {X : Cx} {tg : Expr}
theorem ps_compF {iter elt tst : Expr} {scope : Scope} {pos pos' spos : Pos} {wi : TI} {g : TG} {tt : TT} {te : TE} {i : Nat} {y : Str} (NY : List Str) (cap : List (Option Nat)) (hc : X.calm = true) (hk : seesOk X scope = true) (hcap : capOk X scope NY cap = true) (hi : PI X tg iter wi)
    (hY : ∀ (s3 : Shared) (H3 : Hp) (fp : List Addr), PG (X.comp scope (clOf X.env scope) NY s3 H3 fp) tg g ∧ PT (X.comp scope (clOf X.env scope) NY s3 H3 fp) tst tt ∧ PE (X.comp scope (clOf X.env scope) NY s3 H3 fp) elt te) (hN : X.N.Nodup) (hi' : X.N[i]? = some y) (hx : Loc X.env.scope y)
    (hf : X.fn y = true ∨ X.env.scope.names.lookup y = some .local := by first | exact .inl rfl | exact .inr rfl) (hw : swapsWith (.ListComp elt [⟨tg, iter, [tst], 0⟩] scope pos) (some (.Name y pos')) spos.line X.env = pure true := by rfl)
    (hs : ∀ x, foldedSetIterable iter X.env x = pure x := by intro _; rfl) : PS X (.Assign [.Name y pos'] (.ListComp elt [⟨tg, iter, [tst], 0⟩] scope pos) spos) (tAsg (tCompFC wi g tt te cap) (gName i)) := by
  refine ps_compF0 (NY := NY) hc (fun I => sees_of I.ok hk) hi hY (fun pins σ H s3 σY I3 e => ?_) hs hN hi' hx hf hw
  subst e
  exact capt_ok I3 (sees_of I3.ok hk) hcap
end
theorem compF_range {lo : Int} {n : Nat} {D : Addr} {g : TG} {tt : TT} {te : TE} {σY : St} {H1 : Hp} {Q : VK} (Pv : Nat → St → Hp → Prop) (h0 : Pv 0 σY H1)
    (hs : ∀ i σ H, i < n → Pv i σ H → g (.int (lo + i)) σ H fun σ3 H3 => tt σ3 H3 fun b H4 => if b = true then te σ3 H4 fun v H5 => ∃ ys, H5 D = some (.lst ys) ∧ ys.length < sizeLine ∧ Pv (i + 1) σ3 (upd H5 D (.lst (ys ++ [v]))) else Pv (i + 1) σ3 H4) (hd : ∀ σ H, Pv n σ H → Q (.ref D) H) :
    CompWF (Itr lo n) g tt te σY H1 D Q := by
  refine ⟨fun i m σ H => m = n - i ∧ i ≤ n ∧ Pv i σ H, ⟨n, by simp, Nat.zero_le _, h0⟩, ?_⟩
  rintro i m σ H ⟨rfl, hi, p⟩
  by_cases hlt : i < n
  · refine .inr ⟨hlt, Pv (i + 1), fun σ' H' p' => ⟨n - (i + 1), by omega, rfl, hlt, p'⟩, fun x H' y => ?_⟩
    obtain ⟨e, y⟩ := y
    subst e y
    exact hs i σ _ hlt p
  · have e : i = n := by omega
    subst e
    exact .inl ⟨Nat.le_refl _, hd σ H p⟩
end L2
namespace PO
open PySem L2 FM
inductive Item
  | num (n : Int) | here | loc (i : Int) | pair (s : Str) | cho | call (j : Int) | cell (r : Int) | shi (r b o : Int) | at' (r : Int)
def Item.v : Item → List V
  | .num n => [.str "number", .int n]
  | .here => [.str "here"]
  | .loc i => [.str "local", .int i]
  | .pair s => [.str "pair", .str s]
  | .cho => [.str "choice"]
  | .call j => [.str "call", .int j]
  | .cell r => [.str "cell", .int r]
  | .shi r b o => [.str "shifted", .int r, .int b, .int o]
  | .at' r => [.str "at", .int r]
def Item.name : Item → Str
  | .num _ => "number" | .here => "here" | .loc _ => "local" | .pair _ => "pair" | .cho => "choice" | .call _ => "call" | .cell _ => "cell" | .shi _ _ _ => "shifted" | .at' _ => "at"
theorem Item.at0 (it : Item) : atI it.v 0 = some (.str it.name) := by cases it <;> rfl
def takes (hs : Int → Nat) : Item → Nat
  | .at' _ => 1 | .pair _ => 2 | .cho => 3 | .call j => hs j | _ => 0
def ofL : List F2.Fm → F2.Fms
  | [] => .nil
  | f :: r => .cons f (ofL r)
theorem ofL_len : ∀ l : List F2.Fm, (ofL l).len = l.length
  | [] => rfl
  | _ :: r => by show (ofL r).len + 1 = r.length + 1; rw [ofL_len r]
def made (it : Item) (ps : List F2.Fm) : F2.Fm := match it with
  | .num n => .num n
  | .here => .here
  | .loc i => .loc i
  | .pair s => .pair s (ps.getD 0 .here) (ps.getD 1 .here)
  | .cho => .cho (ps.getD 0 .here) (ps.getD 1 .here) (ps.getD 2 .here)
  | .call j => .call j (ofL ps)
  | .cell r => .cell r
  | .shi r b o => .shi r b o
  | .at' r => .at' r (ps.getD 0 .here)
def runF (hs : Int → Nat) : List Item → List F2.Fm → List F2.Fm
  | [], p => p
  | it :: r, p => runF hs r (p.take (p.length - takes hs it) ++ [made it (p.drop (p.length - takes hs it))])
def Vl (hs : Int → Nat) : List Item → Nat → Option Nat
  | [], h => some h
  | it :: r, h => if takes hs it ≤ h then Vl hs r (h - takes hs it + 1) else none
def formOf (hs : Int → Nat) (its : List Item) : F2.Fm := (runF hs its []).getD 0 .here
theorem Vl_append (hs : Int → Nat) : ∀ (a b : List Item) (h m : Nat), Vl hs a h = some m → Vl hs (a ++ b) h = Vl hs b m
  | [], _, h, m, e => by cases (show some h = some m from e); rfl
  | it :: a, b, h, m, e => by
    show (if takes hs it ≤ h then Vl hs (a ++ b) (h - takes hs it + 1) else none) = _
    have e : (if takes hs it ≤ h then Vl hs a (h - takes hs it + 1) else none) = some m := e
    split at e
    · rename_i z; rw [if_pos z]; exact Vl_append hs a b _ m e
    · cases e
theorem Vl_pairs (hs : Int → Nat) (s : Str) : ∀ (n : Nat), Vl hs (List.replicate n (.pair s)) (n + 1) = some 1
  | 0 => rfl
  | n + 1 => by
    rw [List.replicate_succ]
    show (if 2 ≤ n + 1 + 1 then Vl hs (List.replicate n (.pair s)) (n + 1 + 1 - 2 + 1) else none) = _
    rw [if_pos (by omega), show n + 1 + 1 - 2 + 1 = n + 1 by omega]
    exact Vl_pairs hs s n
theorem run_length (hs : Int → Nat) : ∀ (its : List Item) (p : List F2.Fm) (m : Nat), Vl hs its p.length = some m → (runF hs its p).length = m
  | [], p, m, e => by cases (show some _ = some m from e); rfl
  | it :: r, p, m, e => by
    have e : (if takes hs it ≤ p.length then Vl hs r (p.length - takes hs it + 1) else none) = some m := e
    split at e
    · rename_i z
      refine run_length hs r _ m ?_
      rw [List.length_append, List.length_take, Nat.min_eq_left (Nat.sub_le _ _)]
      exact e
    · cases e
def ItOk (fs : List F2.Fn) (k : Nat) (S : SpotD) : Item → Prop
  | .num n => Kin n
  | .loc i => 0 ≤ i ∧ i.toNat < S.own.length
  | .pair s => s ∈ FM.signs
  | .call j => 0 ≤ j ∧ j.toNat < k ∧ j.toNat < fs.length
  | .cell r => S.has r ∧ 1 ≤ S.len r ∧ (S.len r ≠ 1 → 0 ≤ S.place ∧ S.place < S.len r)
  | .shi r _ o => S.has r ∧ Kin o
  | .at' r => S.has r
  | _ => True
theorem wfs_of {fs : List F2.Fn} {k : Nat} {S : SpotD} : ∀ {l : List F2.Fm}, (∀ f ∈ l, F2.WF fs k S f) → F2.WFs fs k S (ofL l)
  | [], _ => trivial
  | f :: r, h => ⟨h f List.mem_cons_self, wfs_of fun g hg => h g (List.mem_cons_of_mem _ hg)⟩
theorem getD_mem' {l : List F2.Fm} {i : Nat} (h : i < l.length) : l.getD i .here ∈ l := by
  rw [List.getD_eq_getElem?_getD, List.getElem?_eq_getElem h]
  exact List.getElem_mem h
theorem made_wf {fs : List F2.Fn} {k : Nat} {S : SpotD} {it : Item} {ps : List F2.Fm} (ok : ItOk fs k S it) (h : ∀ f ∈ ps, F2.WF fs k S f) (hl : ps.length = takes (F2.handsOf fs) it) : F2.WF fs k S (made it ps) := by
  cases it with
  | num n => exact ok
  | here => trivial
  | loc i => exact ok
  | pair s => exact ⟨ok, h _ (getD_mem' (by rw [hl]; show 0 < 2; decide)), h _ (getD_mem' (by rw [hl]; show 1 < 2; decide))⟩
  | cho => exact ⟨h _ (getD_mem' (by rw [hl]; show 0 < 3; decide)), h _ (getD_mem' (by rw [hl]; show 1 < 3; decide)), h _ (getD_mem' (by rw [hl]; show 2 < 3; decide))⟩
  | call j => exact ⟨ok.1, ok.2.1, ok.2.2, by rw [ofL_len, hl]; rfl, wfs_of h⟩
  | cell r => exact ok
  | shi r b o => exact ok
  | at' r => exact ⟨ok, h _ (getD_mem' (by rw [hl]; show 0 < 1; decide))⟩
theorem run_wf {fs : List F2.Fn} {k : Nat} {S : SpotD} : ∀ (its : List Item) (p : List F2.Fm) (m : Nat), Vl (F2.handsOf fs) its p.length = some m → (∀ it ∈ its, ItOk fs k S it) → (∀ f ∈ p, F2.WF fs k S f) → ∀ f ∈ runF (F2.handsOf fs) its p, F2.WF fs k S f
  | [], p, _, _, _, h => h
  | it :: r, p, m, e, hi, h => by
    have e : (if takes (F2.handsOf fs) it ≤ p.length then Vl (F2.handsOf fs) r (p.length - takes (F2.handsOf fs) it + 1) else none) = some m := e
    split at e
    · rename_i z
      refine run_wf r _ m ?_ (fun t ht => hi t (List.mem_cons_of_mem _ ht)) fun f hf => ?_
      · rw [List.length_append, List.length_take, Nat.min_eq_left (Nat.sub_le _ _)]; exact e
      · rcases List.mem_append.mp hf with hf | hf
        · exact h f (List.mem_of_mem_take hf)
        · cases List.mem_singleton.mp hf
          exact made_wf (hi it List.mem_cons_self) (fun g hg => h g (List.mem_of_mem_drop hg)) (by rw [List.length_drop]; omega)
    · cases e
theorem Vl_congr {hs hs' : Int → Nat} : ∀ (its : List Item) (n : Nat), (∀ j, Item.call j ∈ its → hs j = hs' j) → Vl hs its n = Vl hs' its n
  | [], _, _ => rfl
  | it :: r, n, h => by
    have e : takes hs it = takes hs' it := by
      cases it with
      | call j => exact h j List.mem_cons_self
      | _ => rfl
    show (if takes hs it ≤ n then Vl hs r _ else none) = (if takes hs' it ≤ n then Vl hs' r _ else none)
    rw [e, Vl_congr r _ fun j hj => h j (List.mem_cons_of_mem _ hj)]
end PO
namespace K13
open PySem L2 FM
def top (i : Nat) : Stmt := PySem.Challenge.pw_rowbreadth_k13_forms.main.body.getD i (.Pass ⟨0, 0, 0, 0⟩)
abbrev s_kept : Stmt := top 6
theorem sc_kept : FnScope ["number"] ["number"] (defScope s_kept) := ⟨rfl, rfl, rfl, by decide +kernel, rfl, by decide +kernel, by decide +kernel⟩
abbrev s_plus : Stmt := top 7
theorem sc_plus : FnScope ["left", "right"] ["left", "right"] (defScope s_plus) := ⟨rfl, rfl, rfl, by decide +kernel, rfl, by decide +kernel, by decide +kernel⟩
abbrev s_minus : Stmt := top 8
theorem sc_minus : FnScope ["left", "right"] ["left", "right"] (defScope s_minus) := ⟨rfl, rfl, rfl, by decide +kernel, rfl, by decide +kernel, by decide +kernel⟩
abbrev s_times : Stmt := top 9
theorem sc_times : FnScope ["left", "right"] ["left", "right"] (defScope s_times) := ⟨rfl, rfl, rfl, by decide +kernel, rfl, by decide +kernel, by decide +kernel⟩
abbrev s_refuse_nought : Stmt := top 10
theorem sc_refuse_nought : FnScope ["right"] ["right"] (defScope s_refuse_nought) := ⟨rfl, rfl, rfl, by decide +kernel, rfl, by decide +kernel, by decide +kernel⟩
abbrev s_quotient : Stmt := top 11
theorem sc_quotient : FnScope ["left", "right"] ["left", "right"] (defScope s_quotient) := ⟨rfl, rfl, rfl, by decide +kernel, rfl, by decide +kernel, by decide +kernel⟩
abbrev s_remainder : Stmt := top 12
theorem sc_remainder : FnScope ["left", "right"] ["left", "right"] (defScope s_remainder) := ⟨rfl, rfl, rfl, by decide +kernel, rfl, by decide +kernel, by decide +kernel⟩
abbrev s_lesser : Stmt := top 13
theorem sc_lesser : FnScope ["left", "right"] ["left", "right"] (defScope s_lesser) := ⟨rfl, rfl, rfl, by decide +kernel, rfl, by decide +kernel, by decide +kernel⟩
abbrev s_greater : Stmt := top 14
theorem sc_greater : FnScope ["left", "right"] ["left", "right"] (defScope s_greater) := ⟨rfl, rfl, rfl, by decide +kernel, rfl, by decide +kernel, by decide +kernel⟩
abbrev s_is_less : Stmt := top 15
theorem sc_is_less : FnScope ["left", "right"] ["left", "right"] (defScope s_is_less) := ⟨rfl, rfl, rfl, by decide +kernel, rfl, by decide +kernel, by decide +kernel⟩
abbrev s_is_equal : Stmt := top 16
theorem sc_is_equal : FnScope ["left", "right"] ["left", "right"] (defScope s_is_equal) := ⟨rfl, rfl, rfl, by decide +kernel, rfl, by decide +kernel, by decide +kernel⟩
abbrev s_bits_of_both : Stmt := top 17
theorem sc_bits_of_both : FnScope ["left", "right"] ["left", "right"] (defScope s_bits_of_both) := ⟨rfl, rfl, rfl, by decide +kernel, rfl, by decide +kernel, by decide +kernel⟩
abbrev s_bits_of_either : Stmt := top 18
theorem sc_bits_of_either : FnScope ["left", "right"] ["left", "right"] (defScope s_bits_of_either) := ⟨rfl, rfl, rfl, by decide +kernel, rfl, by decide +kernel, by decide +kernel⟩
abbrev s_bits_of_one : Stmt := top 19
theorem sc_bits_of_one : FnScope ["left", "right"] ["left", "right"] (defScope s_bits_of_one) := ⟨rfl, rfl, rfl, by decide +kernel, rfl, by decide +kernel, by decide +kernel⟩
abbrev s_done : Stmt := top 21
theorem sc_done : FnScope ["sign", "left", "right"] ["sign", "left", "right"] (defScope s_done) := ⟨rfl, rfl, rfl, by decide +kernel, rfl, by decide +kernel, by decide +kernel⟩
abbrev s_start_of : Stmt := top 23
theorem sc_start_of : FnScope ["lengths", "row"] ["lengths", "row"] (defScope s_start_of) := ⟨rfl, rfl, rfl, by decide +kernel, rfl, by decide +kernel, by decide +kernel⟩
abbrev s_lies_in : Stmt := top 26
theorem sc_lies_in : FnScope ["spot", "row", "place"] ["spot", "row", "place"] (defScope s_lies_in) := ⟨rfl, rfl, rfl, by decide +kernel, rfl, by decide +kernel, by decide +kernel⟩
abbrev s_cell_at : Stmt := top 27
theorem sc_cell_at : FnScope ["spot", "row", "place"] ["spot", "row", "place"] (defScope s_cell_at) := ⟨rfl, rfl, rfl, by decide +kernel, rfl, by decide +kernel, by decide +kernel⟩
abbrev s_l_whole : Stmt := top 39
theorem sc_l_whole : FnScope ["_law_found"] ["_law_found"] (defScope s_l_whole) := ⟨rfl, rfl, rfl, by decide +kernel, rfl, by decide +kernel, by decide +kernel⟩
abbrev s_l_kept_by : Stmt := top 40
theorem sc_l_kept_by : FnScope ["_law_cell", "_law_how", "_law_edges"] ["_law_cell"] (defScope s_l_kept_by) := ⟨rfl, rfl, rfl, by decide +kernel, rfl, by decide +kernel, by decide +kernel⟩
abbrev s_l_mix : Stmt := top 41
theorem sc_l_mix : FnScope ["_law_cell", "_law_factor", "_law_prime"] ["_law_cell", "_law_factor", "_law_prime"] (defScope s_l_mix) := ⟨rfl, rfl, rfl, by decide +kernel, rfl, by decide +kernel, by decide +kernel⟩
abbrev s_l_signed : Stmt := top 42
theorem sc_l_signed : FnScope ["_law_sign", "_law_left", "_law_right_here", "_law_number"] ["_law_sign", "_law_left", "_law_right_here"] (defScope s_l_signed) := ⟨rfl, rfl, rfl, by decide +kernel, rfl, by decide +kernel, by decide +kernel⟩
abbrev s_l_asked : Stmt := top 43
theorem sc_l_asked : FnScope ["_law_form", "_law_spot", "_law_found", "_law_kind", "e"] ["_law_form", "_law_spot"] (defScope s_l_asked) := ⟨rfl, rfl, rfl, by decide +kernel, rfl, by decide +kernel, by decide +kernel⟩
abbrev s_l_takes : Stmt := top 44
theorem sc_l_takes : FnScope ["_law_item", "_law_functions"] ["_law_item", "_law_functions"] (defScope s_l_takes) := ⟨rfl, rfl, rfl, by decide +kernel, rfl, by decide +kernel, by decide +kernel⟩
abbrev s_l_grown : Stmt := top 45
theorem sc_l_grown : FnScope ["_law_pile", "_law_item", "_law_functions", "_law_room", "_law_many", "_law_size", "_law_depth", "_law_part", "_law_grown_here", "_law_total"] ["_law_pile", "_law_item", "_law_functions", "_law_room"] (defScope s_l_grown) := ⟨rfl, rfl, rfl, by decide +kernel, rfl, by decide +kernel, by decide +kernel⟩
abbrev s_l_post_by : Stmt := top 46
theorem sc_l_post_by : FnScope ["_law_cells", "_law_wide", "_law_lengths", "_law_hands", "_law_functions", "_law_room", "_law_post", "_law_pile", "_law_cell", "_law_item", "_law_grown_here", "_law_size", "_law_depth", "_law_part"] ["_law_cells", "_law_wide", "_law_lengths", "_law_hands", "_law_functions", "_law_room"] (defScope s_l_post_by) := ⟨rfl, rfl, rfl, by decide +kernel, rfl, by decide +kernel, by decide +kernel⟩
abbrev s_l_items_by : Stmt := top 47
theorem sc_l_items_by : FnScope ["_law_cell", "_law_wide", "_law_lengths", "_law_hands", "_law_functions", "_law_signs", "_law_how", "_law_rest", "_law_row"] ["_law_cell", "_law_wide", "_law_lengths", "_law_hands", "_law_functions"] (defScope s_l_items_by) := ⟨rfl, rfl, rfl, by decide +kernel, rfl, by decide +kernel, by decide +kernel⟩
abbrev s_l_form_by : Stmt := top 48
theorem sc_l_form_by : FnScope ["_law_item", "_law_parts"] ["_law_item", "_law_parts"] (defScope s_l_form_by) := ⟨rfl, rfl, rfl, by decide +kernel, rfl, by decide +kernel, by decide +kernel⟩
abbrev s_l_form_of : Stmt := top 49
theorem sc_l_form_of : FnScope ["_law_post", "_law_functions", "_law_pile", "_law_item", "_law_many", "_law_parts"] ["_law_post", "_law_functions"] (defScope s_l_form_of) := ⟨rfl, rfl, rfl, by decide +kernel, rfl, by decide +kernel, by decide +kernel⟩
abbrev s_l_cell_due : Stmt := top 50
theorem sc_l_cell_due : FnScope ["_law_item", "_law_part", "_law_place", "_law_worth"] ["_law_item", "_law_part", "_law_place", "_law_worth"] (defScope s_l_cell_due) := ⟨rfl, rfl, rfl, by decide +kernel, rfl, by decide +kernel, by decide +kernel⟩
abbrev s_l_joined : Stmt := top 51
theorem sc_l_joined : FnScope ["_law_item", "_law_parts", "_law_rows", "_law_place", "_law_own", "_law_functions", "_law_part", "_law_given"] ["_law_item", "_law_parts", "_law_rows", "_law_place", "_law_own", "_law_functions"] (defScope s_l_joined) := ⟨rfl, rfl, rfl, by decide +kernel, rfl, by decide +kernel, by decide +kernel⟩
abbrev s_l_result : Stmt := top 52
theorem sc_l_result : FnScope ["_law_post", "_law_rows", "_law_place", "_law_own", "_law_functions", "_law_pile", "_law_item", "_law_many", "_law_parts"] ["_law_post", "_law_rows", "_law_place", "_law_own", "_law_functions"] (defScope s_l_result) := ⟨rfl, rfl, rfl, by decide +kernel, rfl, by decide +kernel, by decide +kernel⟩
abbrev s_l_functions_by : Stmt := top 53
theorem sc_l_functions_by : FnScope ["_law_cells", "_law_functions", "_law_j", "_law_hands", "_law_given", "_law_i", "_law_cell", "_law_post"] ["_law_cells"] (defScope s_l_functions_by) := ⟨rfl, rfl, rfl, by decide +kernel, rfl, by decide +kernel, by decide +kernel⟩
abbrev s_l_rows_by : Stmt := top 54
theorem sc_l_rows_by : FnScope ["_law_script", "_law_many", "_law_rows", "_law_j", "_law_cell", "_law_size", "_law_i"] ["_law_script", "_law_many"] (defScope s_l_rows_by) := ⟨rfl, rfl, rfl, by decide +kernel, rfl, by decide +kernel, by decide +kernel⟩
abbrev s_l_right : Stmt := top 55
theorem sc_l_right : FnScope ["_law_form", "_law_post", "_law_rows", "_law_place", "_law_functions", "_law_bodies", "_law_cells", "_law_row", "_law_handed", "_law_found"] ["_law_form", "_law_post", "_law_rows", "_law_place", "_law_functions", "_law_bodies"] (defScope s_l_right) := ⟨rfl, rfl, rfl, by decide +kernel, rfl, by decide +kernel, by decide +kernel⟩
abbrev s_law : Stmt := top 56
theorem sc_law : FnScope ["_law_script", "_law_first", "_law_cells", "_law_many", "_law_rows", "_law_lengths", "_law_row", "_law_wide", "_law_functions", "_law_bodies", "_law_one", "_law_given", "_law_cell", "_law_post", "_law_form", "_law_place"] ["_law_script"] (defScope s_law) := ⟨rfl, rfl, rfl, by decide +kernel, rfl, by decide +kernel, by decide +kernel⟩
abbrev s_Spot_init : Stmt := inClass (top 25) 0
theorem sc_Spot_init : FnScope ["self", "lengths", "functions", "cells", "place", "own"] ["self", "lengths", "functions", "cells", "place", "own"] (defScope s_Spot_init) := ⟨rfl, rfl, rfl, by decide +kernel, rfl, by decide +kernel, by decide +kernel⟩
abbrev s_Number_init : Stmt := inClass (top 29) 0
theorem sc_Number_init : FnScope ["self", "number"] ["self", "number"] (defScope s_Number_init) := ⟨rfl, rfl, rfl, by decide +kernel, rfl, by decide +kernel, by decide +kernel⟩
abbrev s_Number_worth : Stmt := inClass (top 29) 1
theorem sc_Number_worth : FnScope ["self", "spot"] ["self", "spot"] (defScope s_Number_worth) := ⟨rfl, rfl, rfl, by decide +kernel, rfl, by decide +kernel, by decide +kernel⟩
abbrev s_Here_worth : Stmt := inClass (top 30) 0
theorem sc_Here_worth : FnScope ["self", "spot"] ["self", "spot"] (defScope s_Here_worth) := ⟨rfl, rfl, rfl, by decide +kernel, rfl, by decide +kernel, by decide +kernel⟩
abbrev s_Cell_init : Stmt := inClass (top 31) 0
theorem sc_Cell_init : FnScope ["self", "row"] ["self", "row"] (defScope s_Cell_init) := ⟨rfl, rfl, rfl, by decide +kernel, rfl, by decide +kernel, by decide +kernel⟩
abbrev s_Cell_worth : Stmt := inClass (top 31) 1
theorem sc_Cell_worth : FnScope ["self", "spot"] ["self", "spot"] (defScope s_Cell_worth) := ⟨rfl, rfl, rfl, by decide +kernel, rfl, by decide +kernel, by decide +kernel⟩
abbrev s_Shifted_init : Stmt := inClass (top 32) 0
theorem sc_Shifted_init : FnScope ["self", "row", "by", "other"] ["self", "row", "by", "other"] (defScope s_Shifted_init) := ⟨rfl, rfl, rfl, by decide +kernel, rfl, by decide +kernel, by decide +kernel⟩
abbrev s_Shifted_worth : Stmt := inClass (top 32) 1
theorem sc_Shifted_worth : FnScope ["self", "spot", "place"] ["self", "spot"] (defScope s_Shifted_worth) := ⟨rfl, rfl, rfl, by decide +kernel, rfl, by decide +kernel, by decide +kernel⟩
abbrev s_Local_init : Stmt := inClass (top 33) 0
theorem sc_Local_init : FnScope ["self", "at"] ["self", "at"] (defScope s_Local_init) := ⟨rfl, rfl, rfl, by decide +kernel, rfl, by decide +kernel, by decide +kernel⟩
abbrev s_Local_worth : Stmt := inClass (top 33) 1
theorem sc_Local_worth : FnScope ["self", "spot"] ["self", "spot"] (defScope s_Local_worth) := ⟨rfl, rfl, rfl, by decide +kernel, rfl, by decide +kernel, by decide +kernel⟩
abbrev s_At_init : Stmt := inClass (top 34) 0
theorem sc_At_init : FnScope ["self", "row", "place"] ["self", "row", "place"] (defScope s_At_init) := ⟨rfl, rfl, rfl, by decide +kernel, rfl, by decide +kernel, by decide +kernel⟩
abbrev s_At_worth : Stmt := inClass (top 34) 1
theorem sc_At_worth : FnScope ["self", "spot", "place"] ["self", "spot"] (defScope s_At_worth) := ⟨rfl, rfl, rfl, by decide +kernel, rfl, by decide +kernel, by decide +kernel⟩
abbrev s_Pair_init : Stmt := inClass (top 35) 0
theorem sc_Pair_init : FnScope ["self", "sign", "left", "right"] ["self", "sign", "left", "right"] (defScope s_Pair_init) := ⟨rfl, rfl, rfl, by decide +kernel, rfl, by decide +kernel, by decide +kernel⟩
abbrev s_Pair_worth : Stmt := inClass (top 35) 1
theorem sc_Pair_worth : FnScope ["self", "spot", "left", "right"] ["self", "spot"] (defScope s_Pair_worth) := ⟨rfl, rfl, rfl, by decide +kernel, rfl, by decide +kernel, by decide +kernel⟩
abbrev s_Choice_init : Stmt := inClass (top 36) 0
theorem sc_Choice_init : FnScope ["self", "test", "left", "right"] ["self", "test", "left", "right"] (defScope s_Choice_init) := ⟨rfl, rfl, rfl, by decide +kernel, rfl, by decide +kernel, by decide +kernel⟩
abbrev s_Choice_worth : Stmt := inClass (top 36) 1
theorem sc_Choice_worth : FnScope ["self", "spot"] ["self", "spot"] (defScope s_Choice_worth) := ⟨rfl, rfl, rfl, by decide +kernel, rfl, by decide +kernel, by decide +kernel⟩
abbrev s_Call_init : Stmt := inClass (top 37) 0
theorem sc_Call_init : FnScope ["self", "at", "handed"] ["self", "at", "handed"] (defScope s_Call_init) := ⟨rfl, rfl, rfl, by decide +kernel, rfl, by decide +kernel, by decide +kernel⟩
abbrev s_Call_worth : Stmt := inClass (top 37) 1
theorem sc_Call_worth : FnScope ["self", "spot", "own", "form", "body"] ["self", "spot"] (defScope s_Call_worth) := ⟨rfl, rfl, rfl, by decide +kernel, rfl, by decide +kernel, by decide +kernel⟩
section
variable {P : Program} {w : World} {K : PySem.W.Frag} {mg : Str → Option Value} {base : Heap}
theorem ok_kept {t : Tok} (d : DefIn K mg "kept" s_kept ["number"]) (hH : mg "HALF" = some (.int 9223372036854775808 t)) : Ok P w K mg base (CXe P w base) 1 "kept" ["number"] (sp1 fun n => .int (kept n)) := by
  obtain ⟨f, fd, m, F, b⟩ := d
  refine ⟨f, fd, m, F.kp, b, F.okE sc_kept len1 fun cdv A outer s H vs Q E hr h => ?_⟩
  obtain ⟨n, rfl, k⟩ := h
  refine ⟨_, pss_one (ps_ret (pe_op op_sub (pe_op op_mod (pe_op op_add (pv 0) (pe_gint hH)) (pe_op op_mul pe_int (pe_gint hH))) (pe_gint hH))), ?_⟩
  exact ⟨_, rfl, _, _, rfl, rfl, _, _, rfl, rfl, .inl ⟨by decide, by decide⟩, _, _, rfl, rfl, (by show (0 : Int) < 2 * 9223372036854775808; decide), _, _, rfl, rfl, k⟩
abbrev GK (P : Program) (w : World) (K : PySem.W.Frag) (mg : Str → Option Value) (base : Heap) : Prop := Ok P w K mg base (CXe P w base) 1 "kept" ["number"] (sp1 fun n => .int (kept n))
theorem ok_plus (d : DefIn K mg "plus" s_plus ["left", "right"]) (G : GK P w K mg base) : Ok P w K mg base (CXe P w base) 2 "plus" ["left", "right"] (sp2 (fun _ _ => True) fun a b => kept (a + b)) := by
  obtain ⟨f, fd, m, F, b⟩ := d
  refine ⟨f, fd, m, F.kp, b, F.okE sc_plus len2 fun cdv A outer s H vs Q E hr h => ?_⟩
  obtain ⟨x, y, rfl, _, k⟩ := h
  refine ⟨_, pss_one (ps_ret (pe_ok G hr rfl passE (pa_cons (pe_op op_add (pv 0) (pv 1)) pa_nil))), ?_⟩
  exact ⟨_, rfl, _, rfl, _, _, rfl, rfl, _, rfl, k⟩
theorem ok_minus (d : DefIn K mg "minus" s_minus ["left", "right"]) (G : GK P w K mg base) : Ok P w K mg base (CXe P w base) 2 "minus" ["left", "right"] (sp2 (fun _ _ => True) fun a b => kept (a - b)) := by
  obtain ⟨f, fd, m, F, b⟩ := d
  refine ⟨f, fd, m, F.kp, b, F.okE sc_minus len2 fun cdv A outer s H vs Q E hr h => ?_⟩
  obtain ⟨x, y, rfl, _, k⟩ := h
  refine ⟨_, pss_one (ps_ret (pe_ok G hr rfl passE (pa_cons (pe_op op_sub (pv 0) (pv 1)) pa_nil))), ?_⟩
  exact ⟨_, rfl, _, rfl, _, _, rfl, rfl, _, rfl, k⟩
theorem ok_times (d : DefIn K mg "times" s_times ["left", "right"]) (G : GK P w K mg base) : Ok P w K mg base (CXe P w base) 2 "times" ["left", "right"] (sp2 (fun a _ => Kin a) fun a b => kept (a * b)) := by
  obtain ⟨f, fd, m, F, b⟩ := d
  refine ⟨f, fd, m, F.kp, b, F.okE sc_times len2 fun cdv A outer s H vs Q E hr h => ?_⟩
  obtain ⟨x, y, rfl, c, k⟩ := h
  refine ⟨_, pss_one (ps_ret (pe_ok G hr rfl passE (pa_cons (pe_op op_mul (pv 0) (pv 1)) pa_nil))), ?_⟩
  exact ⟨_, rfl, _, rfl, _, _, rfl, rfl, .inl ⟨by omega, by omega⟩, _, rfl, k⟩
def spNo (CN : Addr) : Sp := fun vs H Q E => ∃ b, vs = [.int b] ∧ (b = 0 → E (.ref CN) none H) ∧ (b ≠ 0 → Q .non H)
theorem ok_refuse {CN : Addr} {bm : List Value} {B newId initId : String} (d : DefIn K mg "refuse_nought" s_refuse_nought ["right"]) (O : PyProof.Rows.OwnCls "ByNought" CN bm newId mg base) (FB : ExcBaseFacts B newId initId bm) :
    Ok P w K mg base (CXe P w base) 1 "refuse_nought" ["right"] (spNo CN) := by
  obtain ⟨f, fd, m, F, b⟩ := d
  refine ⟨f, fd, m, F.kp, b, F.okE sc_refuse_nought (fun vs H Q E ⟨b, e, _⟩ => by rw [e]; rfl) fun cdv A outer s H vs Q E hr h => ?_⟩
  obtain ⟨y, rfl, k0, k1⟩ := h
  refine ⟨_, pss_one (ps_if (pt_cmpR op_eq (pv 0) pe_int (nomark _)) (pss_one (ps_raise O FB rfl rfl throwE (pa_cons pe_str pa_nil))) pss_nil), ?_⟩
  refine ⟨_, rfl, rfl, _, rfl, ?_⟩
  by_cases z : y = 0
  · rw [decide_eq_true (by rw [z])]
    exact iteT ⟨by show 1 ≤ sizeLine; decide, k0 z⟩
  · rw [decide_eq_false (by intro q; cases q; exact z rfl)]
    exact iteF (k1 z)
def spQ (CN : Addr) (g : Int → Int → Int) : Sp := fun vs H Q E => ∃ a b, vs = [.int a, .int b] ∧ Kin b ∧ (b = 0 → E (.ref CN) none H) ∧ (b ≠ 0 → Q (.int (g a b)) H)
theorem ok_quotient {CN : Addr} (d : DefIn K mg "quotient" s_quotient ["left", "right"]) (G : GK P w K mg base) (GN : Ok P w K mg base (CXe P w base) 1 "refuse_nought" ["right"] (spNo CN)) :
    Ok P w K mg base (CXe P w base) 2 "quotient" ["left", "right"] (spQ CN fun a b => kept (a.fdiv b)) := by
  obtain ⟨f, fd, m, F, b⟩ := d
  refine ⟨f, fd, m, F.kp, b, F.okE sc_quotient (fun vs H Q E ⟨a, b, e, _⟩ => by rw [e]; rfl) fun cdv A outer s H vs Q E hr h => ?_⟩
  obtain ⟨x, y, rfl, hb, k0, k1⟩ := h
  refine ⟨_, pss_cons (ps_expr (pe_ok GN hr rfl passE (pa_cons (pv 1) pa_nil))) (pss_one (ps_ret (pe_ok G hr rfl passE (pa_cons (pe_op op_fdivB (pv 0) (pv 1)) pa_nil)))), ?_⟩
  refine ⟨_, rfl, y, rfl, k0, fun z => ?_⟩
  exact ⟨_, rfl, _, rfl, _, _, rfl, rfl, ⟨z, by omega, by omega⟩, _, rfl, k1 z⟩
theorem ok_remainder {CN : Addr} (d : DefIn K mg "remainder" s_remainder ["left", "right"]) (GN : Ok P w K mg base (CXe P w base) 1 "refuse_nought" ["right"] (spNo CN)) :
    Ok P w K mg base (CXe P w base) 2 "remainder" ["left", "right"] (spQ CN fun a b => a.fmod b) := by
  obtain ⟨f, fd, m, F, b⟩ := d
  refine ⟨f, fd, m, F.kp, b, F.okE sc_remainder (fun vs H Q E ⟨a, b, e, _⟩ => by rw [e]; rfl) fun cdv A outer s H vs Q E hr h => ?_⟩
  obtain ⟨x, y, rfl, hb, k0, k1⟩ := h
  refine ⟨_, pss_cons (ps_expr (pe_ok GN hr rfl passE (pa_cons (pv 1) pa_nil))) (pss_one (ps_ret (pe_op op_modN (pv 0) (pv 1)))), ?_⟩
  refine ⟨_, rfl, y, rfl, k0, fun z => ?_⟩
  exact ⟨_, rfl, _, rfl, _, _, rfl, rfl, z, k1 z⟩
theorem ok_lesser (d : DefIn K mg "lesser" s_lesser ["left", "right"]) (hm : mg "min" = none) : Ok P w K mg base (CXe P w base) 2 "lesser" ["left", "right"] (sp2 (fun _ _ => True) fun a b => if b < a then b else a) := by
  obtain ⟨f, fd, m, F, b⟩ := d
  refine ⟨f, fd, m, F.kp, b, F.okE sc_lesser len2 fun cdv A outer s H vs Q E hr h => ?_⟩
  obtain ⟨x, y, rfl, _, k⟩ := h
  refine ⟨_, pss_one (ps_ret (pe_callB (call_min2 rfl) rfl hm PyProof.Rows.boot_min (pa_cons (pv 0) (pa_cons (pv 1) pa_nil)))), ?_⟩
  exact ⟨_, rfl, _, rfl, _, _, rfl, k⟩
theorem ok_greater (d : DefIn K mg "greater" s_greater ["left", "right"]) (hm : mg "max" = none) : Ok P w K mg base (CXe P w base) 2 "greater" ["left", "right"] (sp2 (fun _ _ => True) fun a b => if b > a then b else a) := by
  obtain ⟨f, fd, m, F, b⟩ := d
  refine ⟨f, fd, m, F.kp, b, F.okE sc_greater len2 fun cdv A outer s H vs Q E hr h => ?_⟩
  obtain ⟨x, y, rfl, _, k⟩ := h
  refine ⟨_, pss_one (ps_ret (pe_callB (call_max2 rfl) rfl hm PyProof.Rows.boot_max (pa_cons (pv 0) (pa_cons (pv 1) pa_nil)))), ?_⟩
  exact ⟨_, rfl, _, rfl, _, _, rfl, k⟩
theorem ok_is_less (d : DefIn K mg "is_less" s_is_less ["left", "right"]) : Ok P w K mg base (CXe P w base) 2 "is_less" ["left", "right"] (sp2 (fun _ _ => True) fun a b => if a < b then 1 else 0) := by
  obtain ⟨f, fd, m, F, b⟩ := d
  refine ⟨f, fd, m, F.kp, b, F.okE sc_is_less len2 fun cdv A outer s H vs Q E hr h => ?_⟩
  obtain ⟨x, y, rfl, _, k⟩ := h
  refine ⟨_, pss_one (ps_ret (pe_ifExp (pt_cmpR op_lt (pv 0) (pv 1) (nomark _)) pe_int pe_int)), ?_⟩
  refine ⟨_, rfl, _, rfl, _, _, rfl, rfl, _, rfl, ?_⟩
  dsimp only at k ⊢
  by_cases z : x < y
  · rw [if_pos z] at k; rw [decide_eq_true z]; exact iteT k
  · rw [if_neg z] at k; rw [decide_eq_false z]; exact iteF k
theorem ok_is_equal (d : DefIn K mg "is_equal" s_is_equal ["left", "right"]) : Ok P w K mg base (CXe P w base) 2 "is_equal" ["left", "right"] (sp2 (fun _ _ => True) fun a b => if a = b then 1 else 0) := by
  obtain ⟨f, fd, m, F, b⟩ := d
  refine ⟨f, fd, m, F.kp, b, F.okE sc_is_equal len2 fun cdv A outer s H vs Q E hr h => ?_⟩
  obtain ⟨x, y, rfl, _, k⟩ := h
  refine ⟨_, pss_one (ps_ret (pe_ifExp (pt_cmpR op_eq (pv 0) (pv 1) (nomark _)) pe_int pe_int)), ?_⟩
  refine ⟨_, rfl, _, rfl, rfl, _, rfl, ?_⟩
  dsimp only at k ⊢
  by_cases z : x = y
  · rw [if_pos z] at k; rw [decide_eq_true (by rw [z])]; exact iteT k
  · rw [if_neg z] at k; rw [decide_eq_false (by intro q; cases q; exact z rfl)]; exact iteF k
theorem ok_both (d : DefIn K mg "bits_of_both" s_bits_of_both ["left", "right"]) : Ok P w K mg base (CXe P w base) 2 "bits_of_both" ["left", "right"] (sp2 (fun _ _ => True) Builtin.bitAnd) := by
  obtain ⟨f, fd, m, F, b⟩ := d
  refine ⟨f, fd, m, F.kp, b, F.okE sc_bits_of_both len2 fun cdv A outer s H vs Q E hr h => ?_⟩
  obtain ⟨x, y, rfl, _, k⟩ := h
  exact ⟨_, pss_one (ps_ret (pe_op op_and (pv 0) (pv 1))), _, rfl, _, rfl, _, _, rfl, rfl, k⟩
theorem ok_either (d : DefIn K mg "bits_of_either" s_bits_of_either ["left", "right"]) : Ok P w K mg base (CXe P w base) 2 "bits_of_either" ["left", "right"] (sp2 (fun _ _ => True) Builtin.bitOr) := by
  obtain ⟨f, fd, m, F, b⟩ := d
  refine ⟨f, fd, m, F.kp, b, F.okE sc_bits_of_either len2 fun cdv A outer s H vs Q E hr h => ?_⟩
  obtain ⟨x, y, rfl, _, k⟩ := h
  exact ⟨_, pss_one (ps_ret (pe_op op_or (pv 0) (pv 1))), _, rfl, _, rfl, _, _, rfl, rfl, k⟩
theorem ok_one (d : DefIn K mg "bits_of_one" s_bits_of_one ["left", "right"]) : Ok P w K mg base (CXe P w base) 2 "bits_of_one" ["left", "right"] (sp2 (fun _ _ => True) Builtin.bitXor) := by
  obtain ⟨f, fd, m, F, b⟩ := d
  refine ⟨f, fd, m, F.kp, b, F.okE sc_bits_of_one len2 fun cdv A outer s H vs Q E hr h => ?_⟩
  obtain ⟨x, y, rfl, _, k⟩ := h
  exact ⟨_, pss_one (ps_ret (pe_op op_xor (pv 0) (pv 1))), _, rfl, _, rfl, _, _, rfl, rfl, k⟩
def spDone (CN : Addr) : Sp := fun vs H Q E => ∃ sg a b, vs = [.str sg, .int a, .int b] ∧ sg ∈ signs ∧ Kin a ∧ Kin b ∧ (∀ r, doneR sg a b = some r → Q (.int r) H) ∧ (doneR sg a b = none → E (.ref CN) none H)
def SignAt (K : PySem.W.Frag) (mg : Str → Option Value) (aS : Addr) (sg nm : Str) : Prop := ∃ f, PySem.W.nsIn K aS sg = some (some (.ref f)) ∧ mg nm = some (.ref f)
structure Signs (K : PySem.W.Frag) (mg : Str → Option Value) (aS : Addr) : Prop where
  s1 : SignAt K mg aS "+" "plus"
  s2 : SignAt K mg aS "-" "minus"
  s3 : SignAt K mg aS "*" "times"
  s4 : SignAt K mg aS "/" "quotient"
  s5 : SignAt K mg aS "rest" "remainder"
  s6 : SignAt K mg aS "least" "lesser"
  s7 : SignAt K mg aS "most" "greater"
  s8 : SignAt K mg aS "<" "is_less"
  s9 : SignAt K mg aS "=" "is_equal"
  s10 : SignAt K mg aS "&" "bits_of_both"
  s11 : SignAt K mg aS "|" "bits_of_either"
  s12 : SignAt K mg aS "^" "bits_of_one"
abbrev O2 (P : Program) (w : World) (K : PySem.W.Frag) (mg : Str → Option Value) (base : Heap) (nm : Str) (sp : Sp) : Prop := Ok P w K mg base (CXe P w base) 2 nm ["left", "right"] sp
structure Fns (P : Program) (w : World) (K : PySem.W.Frag) (mg : Str → Option Value) (base : Heap) (CN : Addr) : Prop where
  f1 : O2 P w K mg base "plus" (sp2 (fun _ _ => True) fun a b => kept (a + b))
  f2 : O2 P w K mg base "minus" (sp2 (fun _ _ => True) fun a b => kept (a - b))
  f3 : O2 P w K mg base "times" (sp2 (fun a _ => Kin a) fun a b => kept (a * b))
  f4 : O2 P w K mg base "quotient" (spQ CN fun a b => kept (a.fdiv b))
  f5 : O2 P w K mg base "remainder" (spQ CN fun a b => a.fmod b)
  f6 : O2 P w K mg base "lesser" (sp2 (fun _ _ => True) fun a b => if b < a then b else a)
  f7 : O2 P w K mg base "greater" (sp2 (fun _ _ => True) fun a b => if b > a then b else a)
  f8 : O2 P w K mg base "is_less" (sp2 (fun _ _ => True) fun a b => if a < b then 1 else 0)
  f9 : O2 P w K mg base "is_equal" (sp2 (fun _ _ => True) fun a b => if a = b then 1 else 0)
  f10 : O2 P w K mg base "bits_of_both" (sp2 (fun _ _ => True) Builtin.bitAnd)
  f11 : O2 P w K mg base "bits_of_either" (sp2 (fun _ _ => True) Builtin.bitOr)
  f12 : O2 P w K mg base "bits_of_one" (sp2 (fun _ _ => True) Builtin.bitXor)
theorem ok_done {CN aS : Addr} (d : DefIn K mg "done" s_done ["sign", "left", "right"]) (hS : mg "SIGNS" = some (.ref aS)) (T : TopDict w K aS) (S : Signs K mg aS) (f : Fns P w K mg base CN) :
    Ok P w K mg base (CXe P w base) 3 "done" ["sign", "left", "right"] (spDone CN) := by
  obtain ⟨g, fd, m, F, b⟩ := d
  refine ⟨g, fd, m, F.kp, b, F.okE sc_done (fun vs H Q E ⟨_, _, _, e, _⟩ => by rw [e]; rfl) fun cdv A outer s H vs Q E hr h => ?_⟩
  obtain ⟨sg, x, y, rfl, hs, hx, hy, k1, k2⟩ := h
  refine ⟨_, pss_one (ps_ret (pe_callV (CX := CXe P w base) (k := 2) (pe_ix ix_top (pe_gref hS) (pv 0) (fun _ _ => rfl)) hr passE (pa_cons (pv 1) (pa_cons (pv 2) pa_nil)))), ?_⟩
  have use : ∀ (nm : Str) (sp : Sp), SignAt K mg aS sg nm → O2 P w K mg base nm sp → sp [.int x, .int y] H Q E →
      ∃ (a : Addr) (k : Str) (u : Value) (v : V), V.ref aS = .ref a ∧ V.str sg = .str k ∧ TopDict w K a ∧ PySem.W.nsIn K a k = some (some u) ∧ RelV v u ∧
        ∃ (f : Addr) (fd : FuncData) (ps : List Str) (sp : Sp), v = .ref f ∧ FnOk P w K mg base (CXe P w base) 2 f fd ps sp ∧ PySem.W.keepIn K (.ref f) = true ∧ Binds K fd ps [] ∧ sp [.int x, .int y] H Q E := by
    intro nm sp ⟨f1, e1, m1⟩ ⟨f2, fd2, m2, kp, bb, ok⟩ q
    have e := m1.symm.trans m2
    cases e
    exact ⟨aS, sg, .ref f1, .ref f1, rfl, rfl, T, e1, rfl, f1, fd2, _, sp, rfl, ok, kp, bb, q⟩
  suffices h : ∃ (nm : Str) (sp : Sp), SignAt K mg aS sg nm ∧ O2 P w K mg base nm sp ∧ sp [.int x, .int y] H Q E by
    obtain ⟨nm, sp, a1, a2, a3⟩ := h
    obtain ⟨a, k, u, v, e1, e2, t, e3, r, f, fd, ps, sp', e4, ok, kp, bb, q⟩ := use nm sp a1 a2 a3
    exact ⟨_, rfl, a, k, u, v, e1, e2, t, e3, r, f, fd, ps, sp', e4, ok, kp, bb, _, rfl, _, rfl, q⟩
  simp only [signs, List.mem_cons, List.not_mem_nil, or_false] at hs
  rcases hs with rfl | rfl | rfl | rfl | rfl | rfl | rfl | rfl | rfl | rfl | rfl | rfl
  · exact ⟨_, _, S.s1, f.f1, x, y, rfl, trivial, k1 _ rfl⟩
  · exact ⟨_, _, S.s2, f.f2, x, y, rfl, trivial, k1 _ rfl⟩
  · exact ⟨_, _, S.s3, f.f3, x, y, rfl, hx, k1 _ rfl⟩
  · exact ⟨_, _, S.s4, f.f4, x, y, rfl, hy, fun z => k2 (by show (if y = 0 then none else some _) = none; rw [if_pos z]), fun z => k1 _ (by show (if y = 0 then none else some _) = some _; rw [if_neg z])⟩
  · exact ⟨_, _, S.s5, f.f5, x, y, rfl, hy, fun z => k2 (by show (if y = 0 then none else some _) = none; rw [if_pos z]), fun z => k1 _ (by show (if y = 0 then none else some _) = some _; rw [if_neg z])⟩
  · exact ⟨_, _, S.s6, f.f6, x, y, rfl, trivial, k1 _ rfl⟩
  · exact ⟨_, _, S.s7, f.f7, x, y, rfl, trivial, k1 _ rfl⟩
  · exact ⟨_, _, S.s8, f.f8, x, y, rfl, trivial, k1 _ rfl⟩
  · exact ⟨_, _, S.s9, f.f9, x, y, rfl, trivial, k1 _ rfl⟩
  · exact ⟨_, _, S.s10, f.f10, x, y, rfl, trivial, k1 _ rfl⟩
  · exact ⟨_, _, S.s11, f.f11, x, y, rfl, trivial, k1 _ rfl⟩
  · exact ⟨_, _, S.s12, f.f12, x, y, rfl, trivial, k1 _ rfl⟩
def spKB : Sp := fun vs H Q _ => ∃ c, vs = [.int c] ∧ ∀ H', Same H H' → Q (.int (keptBy c)) H'
theorem ok_kept_by (d : DefIn K mg "_law_kept_by" s_l_kept_by ["_law_cell"]) : Ok P w K mg base (CXe P w base) 1 "_law_kept_by" ["_law_cell"] spKB := by
  obtain ⟨f, fd, m, F, b⟩ := d
  refine ⟨f, fd, m, F.kp, b, F.okE sc_l_kept_by (fun vs H Q E ⟨_, e, _⟩ => by rw [e]; rfl) fun cdv A outer s H vs Q E hr h => ?_⟩
  obtain ⟨c, rfl, k⟩ := h
  have nd := sc_l_kept_by.nd
  refine ⟨_, pss_cons (ps_set (i := 1) nd rfl (Or.inl rfl) (pe_op op_mod (pv 0) pe_int))
    (pss_cons (ps_if (pt_cmpR op_eq (pv 1) pe_int (nomark _)) (pss_one (ps_ret (pe_op op_sub (pe_op op_mod (pe_op op_fdiv (pv 0) pe_int) pe_int) pe_int))) pss_nil)
    (pss_cons (ps_if (pt_cmpR op_eq (pv 1) pe_int (nomark _)) (pss_cons (ps_set (i := 2) nd rfl (Or.inl rfl) (pe_lst (pa_cons (pe_un un_neg pe_int) (pa_cons pe_int (pa_cons (pe_un un_neg pe_int) (pa_cons pe_int (pa_cons (pe_un un_neg pe_int) (pa_cons pe_int pa_nil))))))))
      (pss_one (ps_ret (pe_ix ix_list (pv 2) (pe_op op_mod (pe_op op_fdiv (pv 0) pe_int) pe_int) (fun _ _ => rfl))))) pss_nil)
    (pss_cons (ps_if (pt_cmpR op_eq (pv 1) pe_int (nomark _)) (pss_one (ps_ret (pe_op op_sub (pe_op op_mod (pe_op op_mul (pe_op op_fdiv (pv 0) pe_int) pe_int) pe_int) pe_int))) pss_nil)
    (pss_one (ps_ret (pe_op op_sub (pe_op op_mod (pe_op op_mul (pe_op op_fdiv (pv 0) pe_int) pe_int) pe_int) pe_int)))))), ?_⟩
  refine ⟨_, rfl, _, _, rfl, rfl, (by show (0 : Int) < 4; decide), ?_⟩
  refine ⟨_, rfl, rfl, _, rfl, ?_⟩
  refine ite2 (fun z => ?_) (fun z => ?_)
  · have z : c % 4 = 0 := by simpa using z
    have e : keptBy c = c / 4 % 7 - 3 := by unfold keptBy; rw [if_pos z]
    rw [e] at k
    exact ⟨_, rfl, _, _, rfl, rfl, ⟨by decide, by decide⟩, _, _, rfl, rfl, (by show (0 : Int) < 7; decide), _, _, rfl, rfl, k H (Same.refl H)⟩
  have z0 : ¬ c % 4 = 0 := by simpa using z
  refine ⟨_, rfl, rfl, _, rfl, ?_⟩
  refine ite2 (fun z => ?_) (fun z => ?_)
  · have z1 : c % 4 = 1 := by simpa using z
    have e : keptBy c = edges.getD (c / 4 % 6).toNat 0 := by unfold keptBy; rw [if_neg z0, if_pos z1]
    rw [e] at k
    refine ⟨_, rfl, _, rfl, _, rfl, (by show 6 ≤ sizeLine; decide), fun l hl => ?_⟩
    refine ⟨_, rfl, _, rfl, _, _, rfl, rfl, ⟨by decide, by decide⟩, _, _, rfl, rfl, (by show (0 : Int) < 6; decide), l, edges.map V.int, _, V.int (edges.getD (c / 4 % 6).toNat 0), rfl, rfl, SqL.of upd_same, ?_, k _ fun b o q => by rw [upd_ne (ne_of_none q hl)]; exact q⟩
    have hz : (((c / 4 % 6).toNat : Nat) : Int) = c / 4 % 6 := by omega
    rw [← hz]
    exact atI_nat (edge_at _ (by omega)).1
  have z1 : ¬ c % 4 = 1 := by simpa using z
  refine ⟨_, rfl, rfl, _, rfl, ?_⟩
  refine ite2 (fun z => ?_) (fun z => ?_)
  · have z2 : c % 4 = 2 := by simpa using z
    have e : keptBy c = c / 4 * 48271 % 2001 - 1000 := by unfold keptBy; rw [if_neg z0, if_neg z1, if_pos z2]
    rw [e] at k
    exact ⟨_, rfl, _, _, rfl, rfl, ⟨by decide, by decide⟩, _, _, rfl, rfl, .inr ⟨by decide, by decide⟩, _, _, rfl, rfl, (by show (0 : Int) < 2001; decide), _, _, rfl, rfl, k H (Same.refl H)⟩
  have z2 : ¬ c % 4 = 2 := by simpa using z
  have e : keptBy c = c / 4 * 2862933555777941757 % 18446744073709551616 - 9223372036854775808 := by unfold keptBy; rw [if_neg z0, if_neg z1, if_neg z2]
  rw [e] at k
  exact ⟨_, rfl, _, _, rfl, rfl, ⟨by decide, by decide⟩, _, _, rfl, rfl, .inr ⟨by decide, by decide⟩, _, _, rfl, rfl, (by show (0 : Int) < 18446744073709551616; decide), _, _, rfl, rfl, k H (Same.refl H)⟩
structure Ints (K : PySem.W.Frag) (mg : Str → Option Value) : Prop where
  isi : mg "isinstance" = none
  int : mg "int" = none
  bool : mg "bool" = none
  ii : PySem.W.kitOne K (.type "int") (.type "int") = some true
  ib : PySem.W.kitOne K (.type "int") (.type "bool") = some false
theorem ok_whole (d : DefIn K mg "_law_whole" s_l_whole ["_law_found"]) (N : Ints K mg) : Ok P w K mg base (CXe P w base) 1 "_law_whole" ["_law_found"] (sp1 fun _ => .bl true) := by
  obtain ⟨f, fd, m, F, b⟩ := d
  refine ⟨f, fd, m, F.kp, b, F.okE sc_l_whole len1 fun cdv A outer s H vs Q E hr h => ?_⟩
  obtain ⟨n, rfl, k⟩ := h
  refine ⟨_, pss_one (ps_ret (pe_and (pe_callB call_isinst rfl N.isi PyProof.Rows.boot_isinstance (pa_cons (pv 0) (pa_cons (pe_bty N.int PyProof.Rows.boot_int) pa_nil)))
    (pe_one (pe_not (pe_callB call_isinst rfl N.isi PyProof.Rows.boot_isinstance (pa_cons (pv 0) (pa_cons (pe_bty N.bool PyProof.Rows.boot_bool) pa_nil))))))), ?_⟩
  refine ⟨_, rfl, _, _, .type "int", .type "int", true, rfl, rfl, (fun u r => r), .inl (.int n), N.ii, true, rfl, ?_⟩
  exact iteT ⟨_, rfl, _, _, .type "bool", .type "int", false, rfl, rfl, (fun u r => r), .inl (.int n), N.ib, false, rfl, k⟩
def spStart (K : PySem.W.Frag) : Sp := fun vs H Q _ => ∃ (p : Addr) (ns : List Int) (r : Int), vs = [.ref p, .int r] ∧ SqL K H p (ns.map V.int) ∧ 0 ≤ r ∧ ∀ H', Same H H' → Q (.int (ns.take r.toNat).sum) H'
theorem ok_start (d : DefIn K mg "start_of" s_start_of ["lengths", "row"]) (hsum : mg "sum" = none) : Ok P w K mg base (CXe P w base) 1 "start_of" ["lengths", "row"] (spStart K) := by
  obtain ⟨g, fd, m, F, b⟩ := d
  refine ⟨g, fd, m, F.kp, b, F.okE sc_start_of (fun vs H Q E ⟨_, _, _, e, _⟩ => by rw [e]; rfl) fun cdv A outer s H vs Q E hr h => ?_⟩
  obtain ⟨p, ns, r, rfl, hS, h0, k⟩ := h
  refine ⟨_, pss_one (ps_ret (pe_callB (call_sum rfl) rfl hsum PyProof.Rows.boot_sum (pa_cons (pe_slice sl_list (pv 0) po_none (po_some (pv 1))) pa_nil))), ?_⟩
  refine ⟨_, rfl, _, rfl, r, rfl, p, _, rfl, hS, fun l hl => ?_⟩
  rw [cutV_take h0]
  exact ⟨l, _, rfl, SqL.of upd_same, k _ (same_upd (Same.refl H) hl)⟩
def spMix : Sp := fun vs H Q _ => ∃ c f p : Int, vs = [.int c, .int f, .int p] ∧ 0 < f ∧ f < 18446744073709551616 ∧ 0 < p ∧ Q (.int (c * f % p)) H
theorem ok_mix (d : DefIn K mg "_law_mix" s_l_mix ["_law_cell", "_law_factor", "_law_prime"]) : Ok P w K mg base (CXe P w base) 1 "_law_mix" ["_law_cell", "_law_factor", "_law_prime"] spMix := by
  obtain ⟨g, fd, m, F, b⟩ := d
  refine ⟨g, fd, m, F.kp, b, F.okE sc_l_mix (fun vs H Q E ⟨_, _, _, e, _⟩ => by rw [e]; rfl) fun cdv A outer s H vs Q E hr h => ?_⟩
  obtain ⟨c, f, p, rfl, h0, h1, h2, k⟩ := h
  refine ⟨_, (pss_one (ps_ret (pe_op op_mod (pe_op op_mul (pv 0) (pv 1)) (pv 2)))), ?_⟩
  exact ⟨_, rfl, _, rfl, _, _, rfl, rfl, .inr ⟨by omega, by omega⟩, _, rfl, _, _, rfl, rfl, h2, k⟩
structure SpotC (K : PySem.W.Frag) (C : Addr) : Prop where
  c : Cls K C
  n0 : NoAttr K C "lengths"
  n1 : NoAttr K C "functions"
  n2 : NoAttr K C "cells"
  n3 : NoAttr K C "place"
  n4 : NoAttr K C "own"
def spLies (c : Cs) (K : PySem.W.Frag) : Sp := fun vs H Q _ => ∃ (s : Addr) (S : SpotD) (r q : Int), vs = [.ref s, .int r, .int q] ∧ SpotAt c K H s S ∧ S.has r ∧ Q (.bl (decide (0 ≤ q ∧ q < S.len r))) H
theorem ok_lies {c : Cs} (d : DefIn K mg "lies_in" s_lies_in ["spot", "row", "place"]) (sc : SpotC K c.spot) : Ok P w K mg base (CXe P w base) 1 "lies_in" ["spot", "row", "place"] (spLies c K) := by
  obtain ⟨f, fd, m, F, bd⟩ := d
  refine ⟨f, fd, m, F.kp, bd, F.okE sc_lies_in (fun vs H Q E ⟨_, _, _, _, e, _⟩ => by rw [e]; rfl) fun cdv A outer s H vs Q E hr h => ?_⟩
  obtain ⟨s, S, r, q, rfl, hs, hr', k⟩ := h
  obtain ⟨dx, l, f', e, o, h1, h2, h3, h4⟩ := hs.ex
  refine ⟨_, (pss_one (ps_ret (pe_chain op_le op_lt pe_int (pv 2) (pe_ix ix_list (pe_fld (pv 0) rfl) (pv 1) (fun _ _ => rfl))))), ?_⟩
  refine ⟨_, rfl, _, _, rfl, rfl, _, rfl, ?_⟩
  by_cases z : 0 ≤ q
  · rw [if_pos (decide_eq_true z)]
    refine ⟨_, rfl, s, c.spot, dx, _, .ref l, rfl, h1, sc.c, sc.n0, rfl, _, rfl, l, _, _, _, rfl, rfl, h2, at_int r.toNat hr'.2 (by have := hr'.1; omega), _, _, rfl, rfl, ?_⟩
    have e : decide (0 ≤ q ∧ q < S.len r) = decide (q < S.lens.getD r.toNat 0) := by
      unfold SpotD.len
      simp [z]
    rw [e] at k
    exact k
  · rw [if_neg (by simp [z])]
    have e : decide (0 ≤ q ∧ q < S.len r) = false := decide_eq_false (fun y => z y.1)
    rw [e] at k
    exact k
def spCell (c : Cs) (K : PySem.W.Frag) : Sp := fun vs H Q _ => ∃ (s : Addr) (S : SpotD) (r q : Int), vs = [.ref s, .int r, .int q] ∧ SpotAt c K H s S ∧ 0 ≤ r ∧ 0 ≤ S.start r + q ∧ S.start r + q < S.cells.length ∧ ∀ H', Same H H' → Q (.int (S.cellAt r q)) H'
theorem ok_cell {c : Cs} (d : DefIn K mg "cell_at" s_cell_at ["spot", "row", "place"]) (sc : SpotC K c.spot) (SO : Ok P w K mg base (CXe P w base) 1 "start_of" ["lengths", "row"] (spStart K)) : Ok P w K mg base (CXe P w base) 2 "cell_at" ["spot", "row", "place"] (spCell c K) := by
  obtain ⟨f, fd, m, F, bd⟩ := d
  refine ⟨f, fd, m, F.kp, bd, F.okE sc_cell_at (fun vs H Q E ⟨_, _, _, _, e, _⟩ => by rw [e]; rfl) fun cdv A outer s H vs Q E hr h => ?_⟩
  obtain ⟨s, S, r, q, rfl, hs, hr', h5, h6, k⟩ := h
  obtain ⟨dx, l, f', e, o, h1, h2, h3, h4⟩ := hs.ex
  have hr1 := hr
  refine ⟨_, (pss_one (ps_ret (pe_ix ix_list (pe_fld (pv 0) rfl) (pe_op op_add (pe_ok SO hr1 rfl passE (pa_cons (pe_fld (pv 0) rfl) (pa_cons (pv 1) pa_nil))) (pv 2)) (fun _ _ => rfl)))), ?_⟩
  refine ⟨_, rfl, s, c.spot, dx, _, .ref e, rfl, h1, sc.c, sc.n2, rfl, _, rfl, s, c.spot, dx, _, .ref l, rfl, h1, sc.c, sc.n0, rfl, _, rfl, l, S.lens, r, rfl, h2, hr', fun H' s' => ?_⟩
  exact ⟨_, rfl, _, _, rfl, rfl, e, _, _, _, rfl, rfl, sql_same h3 s', at_int (S.start r + q).toNat (by omega) (by show S.start r + q = _; omega), k H' s'⟩
def spI_Spot (C : Addr) : Sp := fun vs H Q _ => ∃ (x dx : Addr) (u0 u1 u2 u3 u4 : V), vs = [.ref x, u0, u1, u2, u3, u4] ∧ H x = some (.ins C dx []) ∧ ∀ H', (∀ b o, b ≠ x → H b = some o → H' b = some o) → H' x = some (.ins C dx [("lengths", u0), ("functions", u1), ("cells", u2), ("place", u3), ("own", u4)]) → Q .non H'
theorem okI_Spot {C : Addr} (d : InitIn K C "Spot.__init__" s_Spot_init ["self", "lengths", "functions", "cells", "place", "own"]) (cl : Cls K C) (n0 : NoAttr K C "lengths") (n1 : NoAttr K C "functions") (n2 : NoAttr K C "cells") (n3 : NoAttr K C "place") (n4 : NoAttr K C "own") : OkI P w K mg base (CXe P w base) 1 C ["self", "lengths", "functions", "cells", "place", "own"] (spI_Spot C) := by
  obtain ⟨f, fd, m, F, bd⟩ := d
  refine ⟨f, fd, m, bd, F.okE sc_Spot_init (fun vs H Q E ⟨_, _, _, _, _, _, _, e, _⟩ => by rw [e]; rfl) fun cdv A outer s H vs Q E hr h => ?_⟩
  obtain ⟨x, dx, u0, u1, u2, u3, u4, rfl, hx, k⟩ := h
  refine ⟨_, (pss_cons (ps_fld (pv 0) (pv 1) rfl) (pss_cons (ps_fld (pv 0) (pv 2) rfl) (pss_cons (ps_fld (pv 0) (pv 3) rfl) (pss_cons (ps_fld (pv 0) (pv 4) rfl) (pss_one (ps_fld (pv 0) (pv 5) rfl)))))), ?_⟩
  refine ⟨_, rfl, _, rfl, x, C, dx, [], rfl, hx, cl, n0, (by show 0 < 1000; decide), ?_⟩
  refine ⟨_, rfl, _, rfl, x, C, dx, [("lengths", u0)], rfl, upd_same, cl, n1, (by show 1 < 1000; decide), ?_⟩
  refine ⟨_, rfl, _, rfl, x, C, dx, [("lengths", u0), ("functions", u1)], rfl, upd_same, cl, n2, (by show 2 < 1000; decide), ?_⟩
  refine ⟨_, rfl, _, rfl, x, C, dx, [("lengths", u0), ("functions", u1), ("cells", u2)], rfl, upd_same, cl, n3, (by show 3 < 1000; decide), ?_⟩
  refine ⟨_, rfl, _, rfl, x, C, dx, [("lengths", u0), ("functions", u1), ("cells", u2), ("place", u3)], rfl, upd_same, cl, n4, (by show 4 < 1000; decide), ?_⟩
  exact k _ (fun b o nb z => by
    rw [upd_ne nb, upd_ne nb, upd_ne nb, upd_ne nb, upd_ne nb]
    exact z) upd_same
def spI_Number (C : Addr) : Sp := fun vs H Q _ => ∃ (x dx : Addr) (u0 : V), vs = [.ref x, u0] ∧ H x = some (.ins C dx []) ∧ ∀ H', (∀ b o, b ≠ x → H b = some o → H' b = some o) → H' x = some (.ins C dx [("number", u0)]) → Q .non H'
theorem okI_Number {C : Addr} (d : InitIn K C "Number.__init__" s_Number_init ["self", "number"]) (cl : Cls K C) (n0 : NoAttr K C "number") : OkI P w K mg base (CXe P w base) 1 C ["self", "number"] (spI_Number C) := by
  obtain ⟨f, fd, m, F, bd⟩ := d
  refine ⟨f, fd, m, bd, F.okE sc_Number_init (fun vs H Q E ⟨_, _, _, e, _⟩ => by rw [e]; rfl) fun cdv A outer s H vs Q E hr h => ?_⟩
  obtain ⟨x, dx, u0, rfl, hx, k⟩ := h
  refine ⟨_, (pss_one (ps_fld (pv 0) (pv 1) rfl)), ?_⟩
  refine ⟨_, rfl, _, rfl, x, C, dx, [], rfl, hx, cl, n0, (by show 0 < 1000; decide), ?_⟩
  exact k _ (fun b o nb z => by
    rw [upd_ne nb]
    exact z) upd_same
def spI_Cell (C : Addr) : Sp := fun vs H Q _ => ∃ (x dx : Addr) (u0 : V), vs = [.ref x, u0] ∧ H x = some (.ins C dx []) ∧ ∀ H', (∀ b o, b ≠ x → H b = some o → H' b = some o) → H' x = some (.ins C dx [("row", u0)]) → Q .non H'
theorem okI_Cell {C : Addr} (d : InitIn K C "Cell.__init__" s_Cell_init ["self", "row"]) (cl : Cls K C) (n0 : NoAttr K C "row") : OkI P w K mg base (CXe P w base) 1 C ["self", "row"] (spI_Cell C) := by
  obtain ⟨f, fd, m, F, bd⟩ := d
  refine ⟨f, fd, m, bd, F.okE sc_Cell_init (fun vs H Q E ⟨_, _, _, e, _⟩ => by rw [e]; rfl) fun cdv A outer s H vs Q E hr h => ?_⟩
  obtain ⟨x, dx, u0, rfl, hx, k⟩ := h
  refine ⟨_, (pss_one (ps_fld (pv 0) (pv 1) rfl)), ?_⟩
  refine ⟨_, rfl, _, rfl, x, C, dx, [], rfl, hx, cl, n0, (by show 0 < 1000; decide), ?_⟩
  exact k _ (fun b o nb z => by
    rw [upd_ne nb]
    exact z) upd_same
def spI_Shifted (C : Addr) : Sp := fun vs H Q _ => ∃ (x dx : Addr) (u0 u1 u2 : V), vs = [.ref x, u0, u1, u2] ∧ H x = some (.ins C dx []) ∧ ∀ H', (∀ b o, b ≠ x → H b = some o → H' b = some o) → H' x = some (.ins C dx [("row", u0), ("by", u1), ("other", u2)]) → Q .non H'
theorem okI_Shifted {C : Addr} (d : InitIn K C "Shifted.__init__" s_Shifted_init ["self", "row", "by", "other"]) (cl : Cls K C) (n0 : NoAttr K C "row") (n1 : NoAttr K C "by") (n2 : NoAttr K C "other") : OkI P w K mg base (CXe P w base) 1 C ["self", "row", "by", "other"] (spI_Shifted C) := by
  obtain ⟨f, fd, m, F, bd⟩ := d
  refine ⟨f, fd, m, bd, F.okE sc_Shifted_init (fun vs H Q E ⟨_, _, _, _, _, e, _⟩ => by rw [e]; rfl) fun cdv A outer s H vs Q E hr h => ?_⟩
  obtain ⟨x, dx, u0, u1, u2, rfl, hx, k⟩ := h
  refine ⟨_, (pss_cons (ps_fld (pv 0) (pv 1) rfl) (pss_cons (ps_fld (pv 0) (pv 2) rfl) (pss_one (ps_fld (pv 0) (pv 3) rfl)))), ?_⟩
  refine ⟨_, rfl, _, rfl, x, C, dx, [], rfl, hx, cl, n0, (by show 0 < 1000; decide), ?_⟩
  refine ⟨_, rfl, _, rfl, x, C, dx, [("row", u0)], rfl, upd_same, cl, n1, (by show 1 < 1000; decide), ?_⟩
  refine ⟨_, rfl, _, rfl, x, C, dx, [("row", u0), ("by", u1)], rfl, upd_same, cl, n2, (by show 2 < 1000; decide), ?_⟩
  exact k _ (fun b o nb z => by
    rw [upd_ne nb, upd_ne nb, upd_ne nb]
    exact z) upd_same
def spI_Local (C : Addr) : Sp := fun vs H Q _ => ∃ (x dx : Addr) (u0 : V), vs = [.ref x, u0] ∧ H x = some (.ins C dx []) ∧ ∀ H', (∀ b o, b ≠ x → H b = some o → H' b = some o) → H' x = some (.ins C dx [("at", u0)]) → Q .non H'
theorem okI_Local {C : Addr} (d : InitIn K C "Local.__init__" s_Local_init ["self", "at"]) (cl : Cls K C) (n0 : NoAttr K C "at") : OkI P w K mg base (CXe P w base) 1 C ["self", "at"] (spI_Local C) := by
  obtain ⟨f, fd, m, F, bd⟩ := d
  refine ⟨f, fd, m, bd, F.okE sc_Local_init (fun vs H Q E ⟨_, _, _, e, _⟩ => by rw [e]; rfl) fun cdv A outer s H vs Q E hr h => ?_⟩
  obtain ⟨x, dx, u0, rfl, hx, k⟩ := h
  refine ⟨_, (pss_one (ps_fld (pv 0) (pv 1) rfl)), ?_⟩
  refine ⟨_, rfl, _, rfl, x, C, dx, [], rfl, hx, cl, n0, (by show 0 < 1000; decide), ?_⟩
  exact k _ (fun b o nb z => by
    rw [upd_ne nb]
    exact z) upd_same
def spI_At (C : Addr) : Sp := fun vs H Q _ => ∃ (x dx : Addr) (u0 u1 : V), vs = [.ref x, u0, u1] ∧ H x = some (.ins C dx []) ∧ ∀ H', (∀ b o, b ≠ x → H b = some o → H' b = some o) → H' x = some (.ins C dx [("row", u0), ("place", u1)]) → Q .non H'
theorem okI_At {C : Addr} (d : InitIn K C "At.__init__" s_At_init ["self", "row", "place"]) (cl : Cls K C) (n0 : NoAttr K C "row") (n1 : NoAttr K C "place") : OkI P w K mg base (CXe P w base) 1 C ["self", "row", "place"] (spI_At C) := by
  obtain ⟨f, fd, m, F, bd⟩ := d
  refine ⟨f, fd, m, bd, F.okE sc_At_init (fun vs H Q E ⟨_, _, _, _, e, _⟩ => by rw [e]; rfl) fun cdv A outer s H vs Q E hr h => ?_⟩
  obtain ⟨x, dx, u0, u1, rfl, hx, k⟩ := h
  refine ⟨_, (pss_cons (ps_fld (pv 0) (pv 1) rfl) (pss_one (ps_fld (pv 0) (pv 2) rfl))), ?_⟩
  refine ⟨_, rfl, _, rfl, x, C, dx, [], rfl, hx, cl, n0, (by show 0 < 1000; decide), ?_⟩
  refine ⟨_, rfl, _, rfl, x, C, dx, [("row", u0)], rfl, upd_same, cl, n1, (by show 1 < 1000; decide), ?_⟩
  exact k _ (fun b o nb z => by
    rw [upd_ne nb, upd_ne nb]
    exact z) upd_same
def spI_Pair (C : Addr) : Sp := fun vs H Q _ => ∃ (x dx : Addr) (u0 u1 u2 : V), vs = [.ref x, u0, u1, u2] ∧ H x = some (.ins C dx []) ∧ ∀ H', (∀ b o, b ≠ x → H b = some o → H' b = some o) → H' x = some (.ins C dx [("sign", u0), ("left", u1), ("right", u2)]) → Q .non H'
theorem okI_Pair {C : Addr} (d : InitIn K C "Pair.__init__" s_Pair_init ["self", "sign", "left", "right"]) (cl : Cls K C) (n0 : NoAttr K C "sign") (n1 : NoAttr K C "left") (n2 : NoAttr K C "right") : OkI P w K mg base (CXe P w base) 1 C ["self", "sign", "left", "right"] (spI_Pair C) := by
  obtain ⟨f, fd, m, F, bd⟩ := d
  refine ⟨f, fd, m, bd, F.okE sc_Pair_init (fun vs H Q E ⟨_, _, _, _, _, e, _⟩ => by rw [e]; rfl) fun cdv A outer s H vs Q E hr h => ?_⟩
  obtain ⟨x, dx, u0, u1, u2, rfl, hx, k⟩ := h
  refine ⟨_, (pss_cons (ps_fld (pv 0) (pv 1) rfl) (pss_cons (ps_fld (pv 0) (pv 2) rfl) (pss_one (ps_fld (pv 0) (pv 3) rfl)))), ?_⟩
  refine ⟨_, rfl, _, rfl, x, C, dx, [], rfl, hx, cl, n0, (by show 0 < 1000; decide), ?_⟩
  refine ⟨_, rfl, _, rfl, x, C, dx, [("sign", u0)], rfl, upd_same, cl, n1, (by show 1 < 1000; decide), ?_⟩
  refine ⟨_, rfl, _, rfl, x, C, dx, [("sign", u0), ("left", u1)], rfl, upd_same, cl, n2, (by show 2 < 1000; decide), ?_⟩
  exact k _ (fun b o nb z => by
    rw [upd_ne nb, upd_ne nb, upd_ne nb]
    exact z) upd_same
def spI_Choice (C : Addr) : Sp := fun vs H Q _ => ∃ (x dx : Addr) (u0 u1 u2 : V), vs = [.ref x, u0, u1, u2] ∧ H x = some (.ins C dx []) ∧ ∀ H', (∀ b o, b ≠ x → H b = some o → H' b = some o) → H' x = some (.ins C dx [("test", u0), ("left", u1), ("right", u2)]) → Q .non H'
theorem okI_Choice {C : Addr} (d : InitIn K C "Choice.__init__" s_Choice_init ["self", "test", "left", "right"]) (cl : Cls K C) (n0 : NoAttr K C "test") (n1 : NoAttr K C "left") (n2 : NoAttr K C "right") : OkI P w K mg base (CXe P w base) 1 C ["self", "test", "left", "right"] (spI_Choice C) := by
  obtain ⟨f, fd, m, F, bd⟩ := d
  refine ⟨f, fd, m, bd, F.okE sc_Choice_init (fun vs H Q E ⟨_, _, _, _, _, e, _⟩ => by rw [e]; rfl) fun cdv A outer s H vs Q E hr h => ?_⟩
  obtain ⟨x, dx, u0, u1, u2, rfl, hx, k⟩ := h
  refine ⟨_, (pss_cons (ps_fld (pv 0) (pv 1) rfl) (pss_cons (ps_fld (pv 0) (pv 2) rfl) (pss_one (ps_fld (pv 0) (pv 3) rfl)))), ?_⟩
  refine ⟨_, rfl, _, rfl, x, C, dx, [], rfl, hx, cl, n0, (by show 0 < 1000; decide), ?_⟩
  refine ⟨_, rfl, _, rfl, x, C, dx, [("test", u0)], rfl, upd_same, cl, n1, (by show 1 < 1000; decide), ?_⟩
  refine ⟨_, rfl, _, rfl, x, C, dx, [("test", u0), ("left", u1)], rfl, upd_same, cl, n2, (by show 2 < 1000; decide), ?_⟩
  exact k _ (fun b o nb z => by
    rw [upd_ne nb, upd_ne nb, upd_ne nb]
    exact z) upd_same
theorem made_same {H H' : Hp} {x dx : Addr} {o1 o2 : HO} (nx : H x = none) (ndx : H dx = none) (k : ∀ b o, b ≠ x → upd (upd H dx o1) x o2 b = some o → H' b = some o) : Same H H' := fun c o z => k c o (ne_of_none z nx) (by rw [upd_ne (ne_of_none z nx), upd_ne (ne_of_none z ndx)]; exact z)
theorem w2_num {c : F2.Cs} {CN OU : Addr} {fs : List F2.Fn} {k : Nat} {n : Int} (d : MethIn K c.num "worth" "Number.worth" s_Number_worth ["self", "spot"]) (cl : Cls K c.num) (n0 : NoAttr K c.num "number")  : F2.Worth P w K mg base c CN OU 1 fs k (.num n) := by
  obtain ⟨f, fd, m, F, bd⟩ := d
  intro x H hx
  obtain ⟨dx, hx0⟩ := id hx
  refine ⟨c.num, dx, _, fun vs H Q E => ∃ (x s : Addr) (S : F2.SpotD), vs = [.ref x, .ref s] ∧ F2.FormAt c H (.num n) x ∧ F2.SpotAt c K H s S fs ∧ FM.SpotOk S ∧ F2.WF fs k S (.num n) ∧ FM.Out CN OU (F2.worth fs k S (.num n)) H Q E, hx0, ⟨cl, f, fd, _, m, F.okE sc_Number_worth (fun vs H Q E ⟨_, _, _, e, _⟩ => by rw [e]; rfl) fun cdv A outer s H vs Q E hr h => ?_, bd⟩, rfl, fun s S Q E H' sH hs ho hw o => ⟨x, s, S, rfl, hx.same sH, hs, ho, hw, o⟩⟩
  obtain ⟨x, s, S, rfl, ⟨dx, hx⟩, hs, ho, hw, o⟩ := h
  refine ⟨_, (pss_one (ps_ret (pe_fld (pv 0) rfl))), ?_⟩
  exact ⟨_, rfl, x, c.num, dx, _, .int n, rfl, hx, cl, n0, rfl, o H (Same.refl _)⟩
theorem w2_here {c : F2.Cs} {CN OU : Addr} {fs : List F2.Fn} {k : Nat}  (d : MethIn K c.here "worth" "Here.worth" s_Here_worth ["self", "spot"]) (cl : Cls K c.here)  (sc : SpotC K c.spot) : F2.Worth P w K mg base c CN OU 1 fs k (.here) := by
  obtain ⟨f, fd, m, F, bd⟩ := d
  intro x H hx
  obtain ⟨dx, hx0⟩ := id hx
  refine ⟨c.here, dx, _, fun vs H Q E => ∃ (x s : Addr) (S : F2.SpotD), vs = [.ref x, .ref s] ∧ F2.FormAt c H (.here) x ∧ F2.SpotAt c K H s S fs ∧ FM.SpotOk S ∧ F2.WF fs k S (.here) ∧ FM.Out CN OU (F2.worth fs k S (.here)) H Q E, hx0, ⟨cl, f, fd, _, m, F.okE sc_Here_worth (fun vs H Q E ⟨_, _, _, e, _⟩ => by rw [e]; rfl) fun cdv A outer s H vs Q E hr h => ?_, bd⟩, rfl, fun s S Q E H' sH hs ho hw o => ⟨x, s, S, rfl, hx.same sH, hs, ho, hw, o⟩⟩
  obtain ⟨x, s, S, rfl, ⟨dx, hx⟩, hs, ho, hw, o⟩ := h
  obtain ⟨dy, l, f', e, ow, h1, h2, h3, h4, h5⟩ := hs.ex
  refine ⟨_, (pss_one (ps_ret (pe_fld (pv 1) rfl))), ?_⟩
  exact ⟨_, rfl, s, c.spot, dy, _, .int S.place, rfl, h1, sc.c, sc.n3, rfl, o H (Same.refl _)⟩
theorem w2_cell {c : F2.Cs} {CN OU : Addr} {fs : List F2.Fn} {k : Nat} {r : Int} (d : MethIn K c.cell "worth" "Cell.worth" s_Cell_worth ["self", "spot"]) (cl : Cls K c.cell) (n0 : NoAttr K c.cell "row") (sc : SpotC K c.spot) (CL : Ok P w K mg base (CXe P w base) 2 "cell_at" ["spot", "row", "place"] (spCell c.toCs K)) : F2.Worth P w K mg base c CN OU 3 fs k (.cell r) := by
  obtain ⟨f, fd, m, F, bd⟩ := d
  intro x H hx
  obtain ⟨dx, hx0⟩ := id hx
  refine ⟨c.cell, dx, _, fun vs H Q E => ∃ (x s : Addr) (S : F2.SpotD), vs = [.ref x, .ref s] ∧ F2.FormAt c H (.cell r) x ∧ F2.SpotAt c K H s S fs ∧ FM.SpotOk S ∧ F2.WF fs k S (.cell r) ∧ FM.Out CN OU (F2.worth fs k S (.cell r)) H Q E, hx0, ⟨cl, f, fd, _, m, F.okE sc_Cell_worth (fun vs H Q E ⟨_, _, _, e, _⟩ => by rw [e]; rfl) fun cdv A outer s H vs Q E hr h => ?_, bd⟩, rfl, fun s S Q E H' sH hs ho hw o => ⟨x, s, S, rfl, hx.same sH, hs, ho, hw, o⟩⟩
  obtain ⟨x, s, S, rfl, ⟨dx, hx⟩, hs, ho, hw, o⟩ := h
  obtain ⟨dy, l, f', e, ow, h1, h2, h3, h4, h5⟩ := hs.ex
  have hr2 := hr
  have hs' := hs.old
  refine ⟨_, (pss_cons (ps_if (pt_cmpR op_eq (pe_ix ix_list (pe_fld (pv 1) rfl) (pe_fld (pv 0) rfl) (fun _ _ => rfl)) pe_int (nomark _)) (pss_one (ps_ret (pe_ok CL hr2 rfl passE (pa_cons (pv 1) (pa_cons (pe_fld (pv 0) rfl) (pa_cons pe_int pa_nil)))))) pss_nil)
      (pss_one (ps_ret (pe_ok CL hr2 rfl passE (pa_cons (pv 1) (pa_cons (pe_fld (pv 0) rfl) (pa_cons (pe_fld (pv 1) rfl) pa_nil))))))), ?_⟩
  refine ⟨_, rfl, s, c.spot, dy, _, .ref l, rfl, h1, sc.c, sc.n0, rfl, _, rfl, x, c.cell, dx, _, .int r, rfl, hx, cl, n0, rfl, l, _, _, _, rfl, rfl, h2, at_int r.toNat hw.1.2 (by have := hw.1.1; omega), rfl, _, rfl, ?_⟩
  by_cases z : S.len r = 1
  · have ci := FM.cell_in ho hw.1 (q := 0) (by decide) (by omega)
    have ez : F2.worth fs k S (.cell r) = .ok (S.cellAt r 0) := if_pos z
    rw [ez] at o
    rw [decide_eq_true (show V.int (S.lens.getD r.toNat 0) = V.int 1 from congrArg V.int z)]
    exact iteT ⟨_, rfl, _, rfl, x, c.cell, dx, _, .int r, rfl, hx, cl, n0, rfl, s, S, r, 0, rfl, hs', hw.1.1, ci.1, ci.2.1, fun H2 s2 => o H2 s2⟩
  · have pl := hw.2.2 z
    have ci := FM.cell_in ho hw.1 pl.1 pl.2
    have ez : F2.worth fs k S (.cell r) = .ok (S.cellAt r S.place) := if_neg z
    rw [ez] at o
    rw [decide_eq_false (show ¬ V.int (S.lens.getD r.toNat 0) = V.int 1 from fun y => z (by injection y))]
    exact iteF ⟨_, rfl, _, rfl, x, c.cell, dx, _, .int r, rfl, hx, cl, n0, rfl, _, rfl, s, c.spot, dy, _, .int S.place, rfl, h1, sc.c, sc.n3, rfl, s, S, r, S.place, rfl, hs', hw.1.1, ci.1, ci.2.1, fun H2 s2 => o H2 s2⟩
theorem w2_shi {c : F2.Cs} {CN OU : Addr} {fs : List F2.Fn} {k : Nat} {r b o' : Int} (d : MethIn K c.shi "worth" "Shifted.worth" s_Shifted_worth ["self", "spot"]) (cl : Cls K c.shi) (n0 : NoAttr K c.shi "row") (n1 : NoAttr K c.shi "by") (n2 : NoAttr K c.shi "other") (sc : SpotC K c.spot) (LI : Ok P w K mg base (CXe P w base) 1 "lies_in" ["spot", "row", "place"] (spLies c.toCs K)) (CL : Ok P w K mg base (CXe P w base) 2 "cell_at" ["spot", "row", "place"] (spCell c.toCs K)) : F2.Worth P w K mg base c CN OU 3 fs k (.shi r b o') := by
  obtain ⟨f, fd, m, F, bd⟩ := d
  intro x H hx
  obtain ⟨dx, hx0⟩ := id hx
  refine ⟨c.shi, dx, _, fun vs H Q E => ∃ (x s : Addr) (S : F2.SpotD), vs = [.ref x, .ref s] ∧ F2.FormAt c H (.shi r b o') x ∧ F2.SpotAt c K H s S fs ∧ FM.SpotOk S ∧ F2.WF fs k S (.shi r b o') ∧ FM.Out CN OU (F2.worth fs k S (.shi r b o')) H Q E, hx0, ⟨cl, f, fd, _, m, F.okE sc_Shifted_worth (fun vs H Q E ⟨_, _, _, e, _⟩ => by rw [e]; rfl) fun cdv A outer s H vs Q E hr h => ?_, bd⟩, rfl, fun s S Q E H' sH hs ho hw o => ⟨x, s, S, rfl, hx.same sH, hs, ho, hw, o⟩⟩
  obtain ⟨x, s, S, rfl, ⟨dx, hx⟩, hs, ho, hw, o⟩ := h
  obtain ⟨dy, l, f', e, ow, h1, h2, h3, h4, h5⟩ := hs.ex
  have nd := sc_Shifted_worth.nd
  have hr2 := hr
  have hr1 : Room 1 _ := hr.mono (by decide)
  have hs' := hs.old
  refine ⟨_, (pss_cons (ps_set (i := 2) nd rfl (Or.inl rfl) (pe_op op_add (pe_fld (pv 1) rfl) (pe_fld (pv 0) rfl)))
      (pss_cons (ps_if (pt_val (pe_ok LI hr1 rfl passE (pa_cons (pv 1) (pa_cons (pe_fld (pv 0) rfl) (pa_cons (pv 2) pa_nil))))) (pss_one (ps_ret (pe_ok CL hr2 rfl passE (pa_cons (pv 1) (pa_cons (pe_fld (pv 0) rfl) (pa_cons (pv 2) pa_nil)))))) pss_nil)
      (pss_one (ps_ret (pe_fld (pv 0) rfl))))), ?_⟩
  refine ⟨_, rfl, s, c.spot, dy, _, .int S.place, rfl, h1, sc.c, sc.n3, rfl, _, rfl, x, c.shi, dx, _, .int b, rfl, hx, cl, n1, rfl, _, _, rfl, rfl, ?_⟩
  refine ⟨_, rfl, _, rfl, x, c.shi, dx, _, .int r, rfl, hx, cl, n0, rfl, _, rfl, s, S, r, S.place + b, rfl, hs', hw.1, _, rfl, ?_⟩
  by_cases z : 0 ≤ S.place + b ∧ S.place + b < S.len r
  · have ci := FM.cell_in ho hw.1 z.1 z.2
    have ez : F2.worth fs k S (.shi r b o') = .ok (S.cellAt r (S.place + b)) := if_pos z
    rw [ez] at o
    rw [decide_eq_true z]
    exact iteT ⟨_, rfl, _, rfl, x, c.shi, dx, _, .int r, rfl, hx, cl, n0, rfl, _, rfl, s, S, r, S.place + b, rfl, hs', hw.1.1, ci.1, ci.2.1, fun H2 s2 => o H2 s2⟩
  · have ez : F2.worth fs k S (.shi r b o') = .ok o' := if_neg z
    rw [ez] at o
    rw [decide_eq_false z]
    exact iteF ⟨_, rfl, x, c.shi, dx, _, .int o', rfl, hx, cl, n2, rfl, o H (Same.refl _)⟩
theorem w2_loc {c : F2.Cs} {CN OU : Addr} {fs : List F2.Fn} {k : Nat} {a : Int} (d : MethIn K c.loc "worth" "Local.worth" s_Local_worth ["self", "spot"]) (cl : Cls K c.loc) (n0 : NoAttr K c.loc "at") (sc : SpotC K c.spot) : F2.Worth P w K mg base c CN OU 1 fs k (.loc a) := by
  obtain ⟨f, fd, m, F, bd⟩ := d
  intro x H hx
  obtain ⟨dx, hx0⟩ := id hx
  refine ⟨c.loc, dx, _, fun vs H Q E => ∃ (x s : Addr) (S : F2.SpotD), vs = [.ref x, .ref s] ∧ F2.FormAt c H (.loc a) x ∧ F2.SpotAt c K H s S fs ∧ FM.SpotOk S ∧ F2.WF fs k S (.loc a) ∧ FM.Out CN OU (F2.worth fs k S (.loc a)) H Q E, hx0, ⟨cl, f, fd, _, m, F.okE sc_Local_worth (fun vs H Q E ⟨_, _, _, e, _⟩ => by rw [e]; rfl) fun cdv A outer s H vs Q E hr h => ?_, bd⟩, rfl, fun s S Q E H' sH hs ho hw o => ⟨x, s, S, rfl, hx.same sH, hs, ho, hw, o⟩⟩
  obtain ⟨x, s, S, rfl, ⟨dx, hx⟩, hs, ho, hw, o⟩ := h
  obtain ⟨dy, l, f', e, ow, h1, h2, h3, h4, h5⟩ := hs.ex
  refine ⟨_, (pss_one (ps_ret (pe_ix ix_list (pe_fld (pv 1) rfl) (pe_fld (pv 0) rfl) (fun _ _ => rfl)))), ?_⟩
  exact ⟨_, rfl, s, c.spot, dy, _, .ref ow, rfl, h1, sc.c, sc.n4, rfl, _, rfl, x, c.loc, dx, _, .int a, rfl, hx, cl, n0, rfl, ow, _, _, _, rfl, rfl, h5, at_int a.toNat hw.2 (by have := hw.1; omega), o H (Same.refl _)⟩
theorem w2_at {c : F2.Cs} {CN OU : Addr} {fs : List F2.Fn} {k : Nat} {r : Int} {p : F2.Fm} {rm : Nat} {bm : List Value} {B newId initId : String} (d : MethIn K c.at' "worth" "At.worth" s_At_worth ["self", "spot"]) (cl : Cls K c.at') (n0 : NoAttr K c.at' "row") (n1 : NoAttr K c.at' "place") (LI : Ok P w K mg base (CXe P w base) 1 "lies_in" ["spot", "row", "place"] (spLies c.toCs K)) (CL : Ok P w K mg base (CXe P w base) 2 "cell_at" ["spot", "row", "place"] (spCell c.toCs K)) (OO : PyProof.Rows.OwnCls "Outside" OU bm newId mg base) (FB : ExcBaseFacts B newId initId bm) (hk : 2 ≤ rm) (hp : F2.Worth P w K mg base c CN OU rm fs k p) : F2.Worth P w K mg base c CN OU (rm + 1) fs k (.at' r p) := by
  obtain ⟨f, fd, m, F, bd⟩ := d
  intro x H hx
  obtain ⟨dx, y, hx0, _⟩ := id hx
  refine ⟨c.at', dx, _, fun vs H Q E => ∃ (x s : Addr) (S : F2.SpotD), vs = [.ref x, .ref s] ∧ F2.FormAt c H (.at' r p) x ∧ F2.SpotAt c K H s S fs ∧ FM.SpotOk S ∧ F2.WF fs k S (.at' r p) ∧ FM.Out CN OU (F2.worth fs k S (.at' r p)) H Q E, hx0, ⟨cl, f, fd, _, m, F.okE sc_At_worth (fun vs H Q E ⟨_, _, _, e, _⟩ => by rw [e]; rfl) fun cdv A outer s H vs Q E hr h => ?_, bd⟩, rfl, fun s S Q E H' sH hs ho hw o => ⟨x, s, S, rfl, hx.same sH, hs, ho, hw, o⟩⟩
  obtain ⟨x, s, S, rfl, ⟨dx, y, hx, hy⟩, hs, ho, hw, o⟩ := h
  have nd := sc_At_worth.nd
  have hr1 : Room 1 _ := hr.mono (by omega)
  have hr2 : Room 2 _ := hr.mono (by omega)
  refine ⟨_, (pss_cons (ps_set (i := 2) nd rfl (Or.inl rfl) (pe_methX hr passE (pe_fld (pv 0) rfl) (pa_cons (pv 1) pa_nil)))
      (pss_cons (ps_if (pt_not (pt_val (pe_ok LI hr1 rfl passE (pa_cons (pv 1) (pa_cons (pe_fld (pv 0) rfl) (pa_cons (pv 2) pa_nil)))))) (pss_one (ps_raise OO FB rfl rfl throwE (pa_cons pe_str pa_nil))) pss_nil)
      (pss_one (ps_ret (pe_ok CL hr2 rfl passE (pa_cons (pv 1) (pa_cons (pe_fld (pv 0) rfl) (pa_cons (pv 2) pa_nil)))))))), ?_⟩
  obtain ⟨C1, dx1, fs1, sp1, e1, d1, l1, u1⟩ := hp y H hy
  refine ⟨_, rfl, x, c.at', dx, _, .ref y, rfl, hx, cl, n1, rfl, y, C1, dx1, fs1, sp1, rfl, e1, d1, l1, _, rfl, u1 s S _ E _ (Same.refl _) hs ho hw.2 fun H1 s1 => ?_⟩
  have o1 := o.same s1
  cases e : F2.worth fs k S p with
  | nought =>
    have z : F2.worth fs k S (.at' r p) = .nought := by show (match F2.worth fs k S p with | .ok q => _ | e => e) = _; rw [e]
    rw [z] at o1; exact o1 H1 (Same.refl _)
  | outside =>
    have z : F2.worth fs k S (.at' r p) = .outside := by show (match F2.worth fs k S p with | .ok q => _ | e => e) = _; rw [e]
    rw [z] at o1; exact o1 H1 (Same.refl _)
  | ok q =>
    have hx1 := s1 _ _ hx
    have hs1 := hs.same s1
    refine ⟨_, rfl, _, rfl, x, c.at', dx, _, .int r, rfl, hx1, cl, n0, rfl, _, rfl, s, S, r, q, rfl, hs1.old, hw.1, _, rfl, ?_⟩
    by_cases z : 0 ≤ q ∧ q < S.len r
    · rw [decide_eq_true z]
      have ci := FM.cell_in ho hw.1 z.1 z.2
      have z' : F2.worth fs k S (.at' r p) = .ok (S.cellAt r q) := by show (match F2.worth fs k S p with | .ok q => (if 0 ≤ q ∧ q < S.len r then FM.Res.ok (S.cellAt r q) else .outside) | e => e) = _; rw [e]; exact if_pos z
      rw [z'] at o1
      exact iteF ⟨_, rfl, _, rfl, x, c.at', dx, _, .int r, rfl, hx1, cl, n0, rfl, _, rfl, s, S, r, q, rfl, hs1.old, hw.1.1, ci.1, ci.2.1, fun H2 s2 => o1 H2 s2⟩
    · rw [decide_eq_false z]
      have z' : F2.worth fs k S (.at' r p) = .outside := by show (match F2.worth fs k S p with | .ok q => (if 0 ≤ q ∧ q < S.len r then FM.Res.ok (S.cellAt r q) else .outside) | e => e) = _; rw [e]; exact if_neg z
      rw [z'] at o1
      exact iteT ⟨by show 1 ≤ sizeLine; decide, o1 H1 (Same.refl _)⟩
theorem w2_pair {c : F2.Cs} {CN OU : Addr} {fs : List F2.Fn} {k : Nat} {sg : Str} {l r : F2.Fm} {rm : Nat} (d : MethIn K c.pair "worth" "Pair.worth" s_Pair_worth ["self", "spot"]) (cl : Cls K c.pair) (n0 : NoAttr K c.pair "sign") (n1 : NoAttr K c.pair "left") (n2 : NoAttr K c.pair "right") (hB : F2.Bodies fs) (DN : Ok P w K mg base (CXe P w base) 3 "done" ["sign", "left", "right"] (spDone CN)) (hk : 3 ≤ rm) (hl : F2.Worth P w K mg base c CN OU rm fs k l) (hr' : F2.Worth P w K mg base c CN OU rm fs k r) : F2.Worth P w K mg base c CN OU (rm + 1) fs k (.pair sg l r) := by
  obtain ⟨f, fd, m, F, bd⟩ := d
  intro x H hx
  obtain ⟨dx, y, z, hx0, _⟩ := id hx
  refine ⟨c.pair, dx, _, fun vs H Q E => ∃ (x s : Addr) (S : F2.SpotD), vs = [.ref x, .ref s] ∧ F2.FormAt c H (.pair sg l r) x ∧ F2.SpotAt c K H s S fs ∧ FM.SpotOk S ∧ F2.WF fs k S (.pair sg l r) ∧ FM.Out CN OU (F2.worth fs k S (.pair sg l r)) H Q E, hx0, ⟨cl, f, fd, _, m, F.okE sc_Pair_worth (fun vs H Q E ⟨_, _, _, e, _⟩ => by rw [e]; rfl) fun cdv A outer s H vs Q E hr h => ?_, bd⟩, rfl, fun s S Q E H' sH hs ho hw o => ⟨x, s, S, rfl, hx.same sH, hs, ho, hw, o⟩⟩
  obtain ⟨x, s, S, rfl, ⟨dx, y, z, hx, hy, hz⟩, hs, ho, hw, o⟩ := h
  have nd := sc_Pair_worth.nd
  have hr3 : Room 3 _ := hr.mono (by omega)
  refine ⟨_, (pss_cons (ps_set (i := 2) nd rfl (Or.inl rfl) (pe_methX hr passE (pe_fld (pv 0) rfl) (pa_cons (pv 1) pa_nil)))
      (pss_cons (ps_set (i := 3) nd rfl (Or.inl rfl) (pe_methX hr passE (pe_fld (pv 0) rfl) (pa_cons (pv 1) pa_nil)))
      (pss_one (ps_ret (pe_ok DN hr3 rfl passE (pa_cons (pe_fld (pv 0) rfl) (pa_cons (pv 2) (pa_cons (pv 3) pa_nil)))))))), ?_⟩
  obtain ⟨C1, dx1, fs1, sp1, e1, d1, l1, u1⟩ := hl y H hy
  have evp : F2.worth fs k S (.pair sg l r) = (match F2.worth fs k S l with | .ok a => (match F2.worth fs k S r with | .ok b => (match FM.doneR sg a b with | some n => FM.Res.ok n | none => .nought) | e => e) | e => e) := rfl
  refine ⟨_, rfl, x, c.pair, dx, _, .ref y, rfl, hx, cl, n1, rfl, y, C1, dx1, fs1, sp1, rfl, e1, d1, l1, _, rfl, u1 s S _ E _ (Same.refl _) hs ho hw.2.1 fun H1 s1 => ?_⟩
  have o1 := o.same s1
  cases el : F2.worth fs k S l with
  | nought => rw [evp, el] at o1; exact o1 H1 (Same.refl _)
  | outside => rw [evp, el] at o1; exact o1 H1 (Same.refl _)
  | ok a =>
    rw [evp, el] at o1
    have hx1 := s1 _ _ hx
    obtain ⟨C2, dx2, fs2, sp2, e2, d2, l2, u2⟩ := hr' z H1 (hz.same s1)
    refine ⟨_, rfl, x, c.pair, dx, _, .ref z, rfl, hx1, cl, n2, rfl, z, C2, dx2, fs2, sp2, rfl, e2, d2, l2, _, rfl, u2 s S _ E _ (Same.refl _) (hs.same s1) ho hw.2.2 fun H2 s2 => ?_⟩
    have o2 := o1.same s2
    cases er : F2.worth fs k S r with
    | nought => rw [er] at o2; exact o2 H2 (Same.refl _)
    | outside => rw [er] at o2; exact o2 H2 (Same.refl _)
    | ok b =>
      rw [er] at o2
      refine ⟨_, rfl, x, c.pair, dx, _, .str sg, rfl, s2 _ _ hx1, cl, n0, rfl, _, rfl, _, rfl, sg, a, b, rfl, hw.1, F2.worth_kin hB ho hw.2.1 el, F2.worth_kin hB ho hw.2.2 er, fun n e => ?_, fun e => ?_⟩
      · dsimp only at o2; rw [e] at o2; exact o2 H2 (Same.refl _)
      · dsimp only at o2; rw [e] at o2; exact o2 H2 (Same.refl _)
theorem w2_cho {c : F2.Cs} {CN OU : Addr} {fs : List F2.Fn} {k : Nat} {t l r : F2.Fm} {rm : Nat} (d : MethIn K c.cho "worth" "Choice.worth" s_Choice_worth ["self", "spot"]) (cl : Cls K c.cho) (n0 : NoAttr K c.cho "test") (n1 : NoAttr K c.cho "left") (n2 : NoAttr K c.cho "right") (ht : F2.Worth P w K mg base c CN OU rm fs k t) (hl : F2.Worth P w K mg base c CN OU rm fs k l) (hr' : F2.Worth P w K mg base c CN OU rm fs k r) : F2.Worth P w K mg base c CN OU (rm + 1) fs k (.cho t l r) := by
  obtain ⟨f, fd, m, F, bd⟩ := d
  intro x H hx
  obtain ⟨dx, u, y, z, hx0, _⟩ := id hx
  refine ⟨c.cho, dx, _, fun vs H Q E => ∃ (x s : Addr) (S : F2.SpotD), vs = [.ref x, .ref s] ∧ F2.FormAt c H (.cho t l r) x ∧ F2.SpotAt c K H s S fs ∧ FM.SpotOk S ∧ F2.WF fs k S (.cho t l r) ∧ FM.Out CN OU (F2.worth fs k S (.cho t l r)) H Q E, hx0, ⟨cl, f, fd, _, m, F.okE sc_Choice_worth (fun vs H Q E ⟨_, _, _, e, _⟩ => by rw [e]; rfl) fun cdv A outer s H vs Q E hr h => ?_, bd⟩, rfl, fun s S Q E H' sH hs ho hw o => ⟨x, s, S, rfl, hx.same sH, hs, ho, hw, o⟩⟩
  obtain ⟨x, s, S, rfl, ⟨dx, u, y, z, hx, hu, hy, hz⟩, hs, ho, hw, o⟩ := h
  refine ⟨_, (pss_cons (ps_if (pt_cmpR op_ne (pe_methX hr passE (pe_fld (pv 0) rfl) (pa_cons (pv 1) pa_nil)) pe_int (nomark _)) (pss_one (ps_ret (pe_methX hr passE (pe_fld (pv 0) rfl) (pa_cons (pv 1) pa_nil)))) pss_nil)
      (pss_one (ps_ret (pe_methX hr passE (pe_fld (pv 0) rfl) (pa_cons (pv 1) pa_nil))))), ?_⟩
  obtain ⟨C0, dx0, fs0, sp0, e0, d0, l0, u0⟩ := ht u H hu
  have evc : F2.worth fs k S (.cho t l r) = (match F2.worth fs k S t with | .ok a => (if a ≠ 0 then F2.worth fs k S l else F2.worth fs k S r) | e => e) := rfl
  refine ⟨_, rfl, x, c.cho, dx, _, .ref u, rfl, hx, cl, n0, rfl, u, C0, dx0, fs0, sp0, rfl, e0, d0, l0, _, rfl, u0 s S _ E _ (Same.refl _) hs ho hw.1 fun H1 s1 => ?_⟩
  have o1 := o.same s1
  cases et : F2.worth fs k S t with
  | nought => rw [evc, et] at o1; exact o1 H1 (Same.refl _)
  | outside => rw [evc, et] at o1; exact o1 H1 (Same.refl _)
  | ok a =>
    rw [evc, et] at o1
    have hx1 := s1 _ _ hx
    refine ⟨rfl, _, rfl, ?_⟩
    by_cases za : a = 0
    · rw [decide_eq_true (by rw [za])]
      have o2 : FM.Out CN OU (F2.worth fs k S r) H1 Q E := by
        have := o1; dsimp only at this; rw [if_neg (by omega)] at this; exact this
      obtain ⟨C2, dx2, fs2, sp2, e2, d2, l2, u2⟩ := hr' z H1 (hz.same s1)
      exact iteF ⟨_, rfl, x, c.cho, dx, _, .ref z, rfl, hx1, cl, n2, rfl, z, C2, dx2, fs2, sp2, rfl, e2, d2, l2, _, rfl, u2 s S _ E _ (Same.refl _) (hs.same s1) ho hw.2.2 o2⟩
    · rw [decide_eq_false (by intro q; cases q; exact za rfl)]
      have o2 : FM.Out CN OU (F2.worth fs k S l) H1 Q E := by
        have := o1; dsimp only at this; rw [if_pos za] at this; exact this
      obtain ⟨C2, dx2, fs2, sp2, e2, d2, l2, u2⟩ := hl y H1 (hy.same s1)
      exact iteT ⟨_, rfl, x, c.cho, dx, _, .ref y, rfl, hx1, cl, n1, rfl, y, C2, dx2, fs2, sp2, rfl, e2, d2, l2, _, rfl, u2 s S _ E _ (Same.refl _) (hs.same s1) ho hw.2.1 o2⟩
theorem w2_call {c : F2.Cs} {CN OU : Addr} {fs : List F2.Fn} {k : Nat} {a : Int} {gs : F2.Fms} {rm : Nat} (d : MethIn K c.call "worth" "Call.worth" s_Call_worth ["self", "spot"]) (cl : Cls K c.call) (n0 : NoAttr K c.call "at") (n1 : NoAttr K c.call "handed") (sc : SpotC K c.spot) (hB : F2.Bodies fs) (IS : OkI P w K mg base (CXe P w base) 1 c.spot ["self", "lengths", "functions", "cells", "place", "own"] (spI_Spot c.spot)) (hCs : mg "Spot" = some (.ref c.spot)) (hk : 2 ≤ rm) (h6 : ∀ a, F2.handsOf fs a ≤ 600) (hh : gs.All (F2.Worth P w K mg base c CN OU rm fs k)) (hb : ∀ a, 0 ≤ a → a.toNat < k → a.toNat < fs.length → F2.Worth P w K mg base c CN OU rm fs (k - 1) (F2.bodyOf fs a)) : F2.Worth P w K mg base c CN OU (rm + 1) fs k (.call a gs) := by
  obtain ⟨f, fd, m, F, bd⟩ := d
  intro x H hx
  obtain ⟨dx, la, ys, hx0, _, _⟩ := id hx
  refine ⟨c.call, dx, _, fun vs H Q E => ∃ (x s : Addr) (S : F2.SpotD), vs = [.ref x, .ref s] ∧ F2.FormAt c H (.call a gs) x ∧ F2.SpotAt c K H s S fs ∧ FM.SpotOk S ∧ F2.WF fs k S (.call a gs) ∧ FM.Out CN OU (F2.worth fs k S (.call a gs)) H Q E, hx0, ⟨cl, f, fd, _, m, F.okE sc_Call_worth (fun vs H Q E ⟨_, _, _, e, _⟩ => by rw [e]; rfl) fun cdv A outer s H vs Q E hr h => ?_, bd⟩, rfl, fun s S Q E H' sH hs ho hw o => ⟨x, s, S, rfl, hx.same sH, hs, ho, hw, o⟩⟩
  obtain ⟨x, s, S, rfl, ⟨dx, la, ys, hx, hla, hys⟩, hs, ho, hw, o⟩ := h
  obtain ⟨dy, l, f', e, ow, h1, h2, h3, h4, h5⟩ := hs.ex
  have nd := sc_Call_worth.nd
  have hr2 : Room 2 _ := hr.mono (by omega)
  obtain ⟨w0, w1, w2, w3, w4⟩ := hw
  refine ⟨_, (pss_cons (ps_compX (i := 2) (te := tMethX (DispX P w K mg base (CXe P w base) rm "worth") "worth" E (tVar 0) (tCons (tVar 1) tNil)) (E := E) rfl rfl rfl airE ["form", "spot"] [none, some 1] rfl rfl rfl (pi_list (pe_fld (pv 0) rfl)) (fun s3 H3 fp => ⟨pg_name (i := 0) (show ((["form", "spot"] : List Str)).Nodup by decide +kernel) rfl (Or.inl rfl), (pe_methX (E := E) (CX := CXe P w base) hr (by intro p1 p2 p3 p4 p5 p6 I h; exact ⟨p1, p2, p3, p4, I.unwish, h⟩) (pv 0) (pa_cons (pv 1) pa_nil))⟩) nd rfl (Or.inl rfl))
      (pss_cons (ps_set (i := 4) nd rfl (Or.inl rfl) (pe_ix ix_tup (pe_ix ix_list (pe_fld (pv 1) rfl) (pe_fld (pv 0) rfl) (fun _ _ => rfl)) pe_int (fun _ _ => rfl)))
      (pss_one (ps_ret (pe_methX hr passE (pv 4) (pa_cons (pe_okI IS hCs hr2 (by rfl) passE (pa_cons (pe_fld (pv 1) rfl) (pa_cons (pe_fld (pv 1) rfl) (pa_cons (pe_fld (pv 1) rfl) (pa_cons (pe_fld (pv 1) rfl) (pa_cons (pv 2) pa_nil)))))) pa_nil)))))), ?_⟩
  rw [F2.worth_call] at o
  have hyl := hys.len
  refine ⟨_, rfl, x, c.call, dx, _, .ref la, rfl, hx, cl, n1, rfl, la, rfl, ⟨_, SqL.of hla⟩, _, rfl, fun D nD => ?_⟩
  refine comp_list (K := K) (a := la) (D := D) (xs := ys.map V.ref) (fun i σ H2 => ∃ (u : Option V) (ls : List Int), σ = [u, some (.ref s)] ∧ Hd H [(D, .lst (ls.map V.int))] H2 ∧ ls.length = i ∧ F2.evs (F2.callK fs S k) S gs = (F2.evs (F2.callK fs S k) S (gs.drop i)).pre ls) ?_ (fun i σ H2 _ ⟨_, _, _, h, _⟩ => SqL.of (h.sm _ _ hla)) ?_ ?_
  · exact ⟨none, [], rfl, Hd.base.new nD, rfl, F2.pre_nil.symm⟩
  · rintro i v σ H2 hi ⟨u, ls, rfl, h, hll, he⟩
    obtain ⟨y, hy, rfl⟩ : ∃ y, ys[i]? = some y ∧ v = .ref y := by
      rw [List.getElem?_map] at hi
      cases z : ys[i]? with
      | none => rw [z] at hi; cases hi
      | some y => rw [z] at hi; exact ⟨y, rfl, (Option.some.inj hi).symm⟩
    obtain ⟨f1, fd1, fa, fw, fwf⟩ := F2.FormsAt.get hys hh w4 hy
    obtain ⟨C1, dx1, fs1, sp1, e1, d1, l1, u1⟩ := fw y H2 (fa.same h.sm)
    have hi' : i < ys.length := (List.getElem?_eq_some_iff.mp hy).1
    have yl : ys.length ≤ 600 := by rw [hyl, w3]; exact h6 a
    have SL : (600 : Nat) < sizeLine := by decide
    refine ⟨_, rfl, y, C1, dx1, fs1, sp1, rfl, e1, d1, l1, _, rfl, u1 s S _ E _ (Same.refl _) (hs.same h.sm) ho fwf fun H3 s3 => ?_⟩
    have h := h.same s3
    rw [fd1] at he
    cases ef : F2.worth fs k S f1 with
    | nought =>
      rw [he, F2.pre_bad ef (by intro n z; cases z)] at o
      exact o H3 h.sm
    | outside =>
      rw [he, F2.pre_bad ef (by intro n z; cases z)] at o
      exact o H3 h.sm
    | ok n =>
      refine ⟨_, h.get 0 rfl, by rw [List.length_map]; omega, some (.ref y), ls ++ [n], rfl, ?_, by rw [List.length_append, hll]; rfl, by rw [he]; exact F2.pre_step ef⟩
      rw [List.map_append]
      exact h.put 0 rfl
  rintro σ H2 ⟨u, ls, rfl, h, hll, he⟩
  rw [List.length_map] at hll he
  rw [hyl, F2.drop_all] at he
  have he : F2.evs (F2.callK fs S k) S gs = .ok ls := by rw [he]; show F2.RL.ok (ls ++ []) = _; rw [List.append_nil]
  obtain ⟨ql, qk⟩ := F2.evs_kin (fs := fs) (k := k) ho (fun a l n x0 x1 x2 x3 x4 x5 => F2.call_kin hB ho k a l n x0 x1 x2 x3 x4 x5) w4 he
  rw [he] at o
  obtain ⟨kk, rfl⟩ : ∃ j, k = j + 1 := ⟨k - 1, by omega⟩
  obtain ⟨ts, t1, t2, t3⟩ := h3.ex
  obtain ⟨bb, b1, b2⟩ := t3 a.toNat w2
  have at1 : atI (ts.map V.ref) a = some (.ref (ts.getD a.toNat 0)) := by
    have ea : a = (a.toNat : Int) := by omega
    rw [ea, Int.toNat_natCast]
    refine atI_nat ?_
    rw [List.getElem?_map, List.getElem?_eq_getElem (by omega)]
    simp [List.getD, show a.toNat < ts.length by omega]
  refine ⟨_, rfl, s, c.spot, dy, _, .ref f', rfl, h.sm _ _ h1, sc.c, sc.n1, rfl, _, rfl, x, c.call, dx, _, .int a, rfl, h.sm _ _ hx, cl, n0, rfl, f', _, _, _, rfl, rfl, h.sql t1, at1, ts.getD a.toNat 0, _, 1, .ref bb, rfl, rfl, h.sqt b1, rfl, ?_⟩
  have bW : F2.Worth P w K mg base c CN OU rm fs kk (F2.bodyOf fs a) := hb a w0 (by omega) w2
  obtain ⟨C2, dx2, fs2, sp2, e2, d2, l2, u2⟩ := bW bb H2 (b2.same h.sm)
  refine ⟨_, rfl, bb, C2, dx2, fs2, sp2, rfl, e2, d2, l2, _, rfl, s, c.spot, dy, _, .ref l, rfl, h.sm _ _ h1, sc.c, sc.n0, rfl, _, rfl, s, c.spot, dy, _, .ref f', rfl, h.sm _ _ h1, sc.c, sc.n1, rfl, _, rfl, s, c.spot, dy, _, .ref e, rfl, h.sm _ _ h1, sc.c, sc.n2, rfl, _, rfl, s, c.spot, dy, _, .int S.place, rfl, h.sm _ _ h1, sc.c, sc.n3, rfl, _, rfl, fun xs dxs nxs ndxs ne => ⟨xs, dxs, _, _, _, _, _, rfl, upd_same, fun H4 k4 e4 => ⟨rfl, ?_⟩⟩⟩
  have s4 := made_same nxs ndxs k4
  have h := h.same s4
  have ew : F2.worth fs kk { S with own := ls } (F2.bodyOf fs a) = F2.callK fs S (kk + 1) a ls := by
    show F2.ev (F2.callK fs { S with own := ls } kk) _ _ = F2.ev (F2.callK fs S kk) _ _
    rw [F2.callK_own]
  refine u2 xs { S with own := ls } Q E H4 s4 ⟨dxs, l, f', e, D, e4, h.sql h2, h3.same h.sm, h.sql h4, h.lst 0 rfl⟩ (F2.SpotOk.hand ho qk) (F2.WF.mono (by omega) (hB a S ls w0 w2 (by rw [ql]; exact w3))) fun H5 s5 => ?_
  rw [ew]
  exact o H5 (h.sm.trans s5)
end
end K13
namespace L2
open PySem PySem.Spec PyProof.Rows
def but (H : Hp) (ls : List Addr) : Hp := fun b => if b ∈ ls then none else H b
theorem but_none {H : Hp} {ls : List Addr} {b : Addr} (h : b ∈ ls) : but H ls b = none := by unfold but; rw [if_pos h]
theorem but_of {H : Hp} {ls : List Addr} {b : Addr} {o : HO} (h : H b = some o) (n : b ∉ ls) : but H ls b = some o := by unfold but; rw [if_neg n]; exact h
theorem but_sub {H : Hp} {ls : List Addr} : Same (but H ls) H := fun b o z => by
  unfold but at z
  split at z
  · cases z
  · exact z
namespace Hd
variable {B B' : Hp} {L : List (Addr × HO)} {H H' : Hp} {a : Addr} {o : HO}
theorem into (h : Hd B [(a, o)] H) : Same B (but H [a]) := fun b u z => but_of (h.sm _ _ z) (by
  intro q
  have q := List.mem_singleton.mp q
  subst q
  rw [h.nw _ (List.mem_singleton.mpr rfl)] at z
  cases z)
theorem weak (h : Hd B' L H) (s : Same B B') : Hd B L H := ⟨h.nd, fun p m => s.free (h.nw p m), h.st, s.trans h.sm⟩
theorem back {L : List (Addr × HO)} {o' : HO} (h : Hd B L H) (i : Nat) (e : L[i]? = some (a, o)) (k : Hd (but H [a]) [(a, o')] H') : Hd B (L.set i (a, o')) H' :=
  h.chg i e (fun c u n z => k.sm _ _ (but_of z (by simp [n]))) (k.get 0 rfl)
end Hd
end L2
namespace K13
open PySem L2 FM PO
section
variable {P : Program} {w : World} {K : PySem.W.Frag} {mg : Str → Option Value} {base : Heap}
theorem intEq {a b : Int} : decide (V.int a = V.int b) = decide (a = b) := by
  by_cases z : a = b
  · subst z; simp
  · rw [decide_eq_false z, decide_eq_false (fun q => z (by injection q))]
def spI_Call (K : PySem.W.Frag) (C : Addr) : Sp := fun vs H Q _ => ∃ (x dx h : Addr) (u0 : V) (xs : List V), vs = [.ref x, u0, .ref h] ∧ H x = some (.ins C dx []) ∧ SqL K H h xs ∧ ∀ H' l, H l = none → (∀ b o, b ≠ x → H b = some o → H' b = some o) → H' l = some (.lst xs) → H' x = some (.ins C dx [("at", u0), ("handed", .ref l)]) → Q .non H'
theorem okI_Call {C : Addr} (d : InitIn K C "Call.__init__" s_Call_init ["self", "at", "handed"]) (hlist : mg "list" = none) (cl : Cls K C) (n0 : NoAttr K C "at") (n1 : NoAttr K C "handed") : OkI P w K mg base (CXe P w base) 1 C ["self", "at", "handed"] (spI_Call K C) := by
  obtain ⟨f, fd, m, F, bd⟩ := d
  refine ⟨f, fd, m, bd, F.okE sc_Call_init (fun vs H Q E ⟨_, _, _, _, _, e, _⟩ => by rw [e]; rfl) fun cdv A outer s H vs Q E hr h => ?_⟩
  obtain ⟨x, dx, h, u0, xs, rfl, hx, hh, k⟩ := h
  refine ⟨_, (pss_cons (ps_fld (pv 0) (pv 1) rfl) (pss_one (ps_fld (pv 0) (pe_callTy call_list_of (by rfl) hlist PyProof.Rows.boot_list (pa_cons (pv 2) pa_nil)) rfl))), ?_⟩
  refine ⟨_, rfl, _, rfl, x, C, dx, [], rfl, hx, cl, n0, (by show 0 < 1000; decide), ?_⟩
  have h2 : SqL K (upd H x (.ins C dx [("at", u0)])) h xs := by
    rcases hh with (z | ⟨o, z⟩) | z
    · exact .inl (.inl (by rw [upd_ne (fun e => by subst e; rw [hx] at z; cases z)]; exact z))
    · exact .inl (.inr ⟨o, by rw [upd_ne (fun e => by subst e; rw [hx] at z; cases z)]; exact z⟩)
    · exact .inr z
  refine ⟨_, rfl, h, _, rfl, .inl h2, fun l nl => ?_⟩
  have nx : l ≠ x := fun e => by subst e; rw [upd_same] at nl; cases nl
  refine ⟨_, rfl, x, C, dx, [("at", u0)], rfl, (by rw [upd_ne (Ne.symm nx)]; exact upd_same), cl, n1, (by show 1 < 1000; decide), ?_⟩
  refine k _ l (by rw [upd_ne nx] at nl; exact nl) (fun b o nb z => ?_) (by rw [upd_ne nx]; exact upd_same) upd_same
  rw [upd_ne nb]
  have nl' : b ≠ l := fun e => by subst e; rw [upd_ne nb] at nl; rw [nl] at z; cases z
  rw [upd_ne nl', upd_ne nb]
  exact z
def resV : Res → List V
  | .ok n => [.str "", .int n]
  | .nought => [.str "nought", .int 0]
  | .outside => [.str "outside", .int 0]
structure ExcK (K : PySem.W.Frag) (mg : Str → Option Value) (CN OU : Addr) : Prop where
  hN : mg "ByNought" = some (.ref CN)
  hO : mg "Outside" = some (.ref OU)
  nn : PySem.W.exmOne K (.ref CN) (.ref CN) = some true
  on : PySem.W.exmOne K (.ref OU) (.ref CN) = some false
  oo : PySem.W.exmOne K (.ref OU) (.ref OU) = some true
structure ExcX (K : PySem.W.Frag) (mg : Str → Option Value) (CN OU : Addr) : Prop extends ExcK K mg CN OU where
  no : PySem.W.kitOne K (.ref CN) (.ref OU) = some false
  xc : ExcCls K CN
def spAsked (P : Program) (w : World) (K : PySem.W.Frag) (mg : Str → Option Value) (base : Heap) (c : F2.Cs) (CN OU : Addr) (rm : Nat) : Sp := fun vs H Q _ => ∃ (x s : Addr) (F : F2.Fm) (S : SpotD) (fs : List F2.Fn) (k : Nat), vs = [.ref x, .ref s] ∧ F2.FormAt c H F x ∧ F2.Worth P w K mg base c CN OU rm fs k F ∧ F2.SpotAt c K H s S fs ∧ SpotOk S ∧ F2.WF fs k S F ∧
  ∀ (H' : Hp) (t : Addr), Hd H [(t, .tup (resV (F2.worth fs k S F)))] H' → Q (.ref t) H'
theorem ok_asked {c : F2.Cs} {CN OU : Addr} {rm : Nat} (d : DefIn K mg "_law_asked" s_l_asked ["_law_form", "_law_spot"]) (X : ExcX K mg CN OU) (N : Ints K mg) : Ok P w K mg base (CXe P w base) (rm + 1) "_law_asked" ["_law_form", "_law_spot"] (spAsked P w K mg base c CN OU rm) := by
  obtain ⟨g, fd, m, F, b⟩ := d
  refine ⟨g, fd, m, F.kp, b, F.okE sc_l_asked (fun vs H Q E ⟨_, _, _, _, _, _, e, _⟩ => by rw [e]; rfl) fun cdv A outer s H vs Q E hr h => ?_⟩
  obtain ⟨x, sp, F, S, fs, k, rfl, hx, hW, hs, ho, hw, q⟩ := h
  have nd := sc_l_asked.nd
  have hN := X.hN
  have hO := X.hO
  refine ⟨_, (pss_cons (ps_set (i := 2) nd rfl (Or.inl rfl) pe_int)
      (pss_cons (ps_set (i := 3) nd rfl (Or.inl rfl) pe_str)
      (pss_cons (ps_try (t := fun R => tAsg (tMethX (DispX P w K mg base (CXe P w base) rm "worth") "worth" (XE R) (tVar 0) (tCons (tVar 1) tNil)) (gName 2)) rfl rfl (by intro pins σ₀ R ok; exact ps1_set (i := 2) nd rfl (Or.inl rfl) (pe1_methX (m := "worth") (E := XE R) (CX := CXe P w base) hr (pass_tr (pins := pins) (σ₀ := σ₀) ok) (pv 0) (pa_cons (pv 1) pa_nil))) (ph_as (i := 4) rfl rfl hN nd rfl rfl rfl (fun e => (pss_one (ps_set (i := 3) nd rfl (Or.inl rfl) (pe_ifExp (pt_val (pe_callB call_isinst (by rfl) N.isi PyProof.Rows.boot_isinstance (pa_cons (pv 4) (pa_cons (pe_gref hO) pa_nil)))) pe_str pe_str)))) (ph_no rfl rfl hO (fun e => (pss_one (ps_set (i := 3) nd rfl (Or.inl rfl) pe_str))) ph_nil)))
      (pss_one (ps_ret (pe_tup (pa_cons (pv 3) (pa_cons (pv 2) pa_nil)))))))), ?_⟩
  obtain ⟨C1, dx1, fs1, sp1, e1, d1, l1, u1⟩ := hW x H hx
  have fin : ∀ (H1 : Hp) (kd : Str) (n : Int), Same H H1 → resV (F2.worth fs k S F) = [.str kd, .int n] → tRet (tTup (tCons (tVar 3) (tCons (tVar 2) tNil))) { nx := fun _ H' => Q .non H', rt := Q } [some (.ref x), some (.ref sp), some (.int n), some (.str kd), none] H1 := fun H1 kd n s1 e =>
    ⟨_, rfl, _, rfl, (by show 2 ≤ sizeLine; decide), fun t nt => q _ t (by rw [e]; exact ((Hd.base (B := H)).same s1).new nt)⟩
  refine ⟨fun C H' => Same H H' ∧ ((C = CN ∧ F2.worth fs k S F = .nought) ∨ (C = OU ∧ F2.worth fs k S F = .outside)), ?_, ?_⟩
  · refine ⟨_, rfl, x, C1, dx1, fs1, sp1, rfl, e1, d1, l1, _, rfl, u1 sp S _ _ H (Same.refl _) hs ho hw fun H1 s1 => ?_⟩
    cases e : F2.worth fs k S F with
    | ok n => exact fin H1 "" n s1 (by rw [e]; rfl)
    | nought => exact ⟨CN, rfl, s1, .inl ⟨rfl, rfl⟩⟩
    | outside => exact ⟨OU, rfl, s1, .inr ⟨rfl, rfl⟩⟩
  · rintro e C H1 fe ⟨s1, ⟨rfl, ee⟩ | ⟨rfl, ee⟩⟩
    · refine ⟨true, X.nn, iteT ?_⟩
      refine ⟨_, rfl, _, _, .ref OU, .ref C, false, rfl, rfl, (fun u r => r), .inr ⟨e, C, rfl, upd_same, rfl, X.xc⟩, X.no, false, rfl, iteF ?_⟩
      exact fin _ "nought" 0 (same_upd s1 (s1.free fe)) (by rw [ee]; rfl)
    · refine ⟨false, X.on, iteF ⟨true, X.oo, iteT ?_⟩⟩
      exact fin _ "outside" 0 (same_upd s1 (s1.free fe)) (by rw [ee]; rfl)
def sgR (sg : Str) (a b : Int) : Res := match doneR sg a b with
  | some n => .ok n
  | none => .nought
def spSigned : Sp := fun vs H Q _ => ∃ (sg : Str) (a b : Int), vs = [.str sg, .int a, .int b] ∧ sg ∈ signs ∧ Kin a ∧ Kin b ∧ ∀ (H' : Hp) (t : Addr), Same H H' → H' t = some (.tup (resV (sgR sg a b))) → Q (.ref t) H'
theorem kept_self {n : Int} (h : Kin n) : kept n = n := by unfold kept; omega
theorem ok_signed (d : DefIn K mg "_law_signed" s_l_signed ["_law_sign", "_law_left", "_law_right_here"]) (N : Ints K mg) (hmin : mg "min" = none) (hmax : mg "max" = none) : Ok P w K mg base (CXe P w base) 1 "_law_signed" ["_law_sign", "_law_left", "_law_right_here"] spSigned := by
  obtain ⟨g, fd, m, F, bd⟩ := d
  refine ⟨g, fd, m, F.kp, bd, F.okE sc_l_signed (fun vs H Q E ⟨_, _, _, e, _⟩ => by rw [e]; rfl) fun cdv A outer s H vs Q E hr h => ?_⟩
  obtain ⟨sg, a, b, rfl, hs, ha, hb, k⟩ := h
  have nd := sc_l_signed.nd
  refine ⟨_, (pss_cons (ps_if (pw_or (pt_cmpR op_eq (pv 0) pe_str (nomark _)) (pw_or1 (pt_cmpR op_eq (pv 0) pe_str (nomark _)))).pt (pss_cons (ps_if (pt_cmpR op_eq (pv 2) pe_int (nomark _)) (pss_one (ps_ret (pe_tup (pa_cons pe_str (pa_cons pe_int pa_nil))))) pss_nil)
      (pss_one (ps_set (i := 3) nd rfl (Or.inl rfl) (pe_ifExp (pt_cmpR op_eq (pv 0) pe_str (nomark _)) (pe_op op_fdivB (pv 1) (pv 2)) (pe_op op_sub (pv 1) (pe_op op_mul (pe_op op_fdivB (pv 1) (pv 2)) (pv 2))))))) (pss_one (ps_if (pt_cmpR op_in_seq (pv 0) (pe_tup (pa_cons pe_str (pa_cons pe_str (pa_cons pe_str pa_nil)))) rfl) (pss_cons (ps_set (i := 3) nd rfl (Or.inl rfl) (pe_ifExp (pt_cmpR op_eq (pv 0) pe_str (nomark _)) (pe_op op_add (pv 1) (pv 2)) (pe_op op_sub (pv 1) (pv 2))))
      (pss_one (ps_if (pt_cmpR op_eq (pv 0) pe_str (nomark _)) (pss_one (ps_set (i := 3) nd rfl (Or.inl rfl) (pe_op op_mul (pv 1) (pv 2)))) pss_nil))) (pss_one (ps_if (pt_cmpR op_in_seq (pv 0) (pe_tup (pa_cons pe_str (pa_cons pe_str pa_nil))) rfl) (pss_one (ps_set (i := 3) nd rfl (Or.inl rfl) (pe_ifExp (pt_cmpR op_eq (pv 0) pe_str (nomark _)) (pe_callB (call_min2 rfl) rfl hmin PyProof.Rows.boot_min (pa_cons (pv 1) (pa_cons (pv 2) pa_nil))) (pe_callB (call_max2 rfl) rfl hmax PyProof.Rows.boot_max (pa_cons (pv 1) (pa_cons (pv 2) pa_nil)))))) (pss_one (ps_if (pt_cmpR op_in_seq (pv 0) (pe_tup (pa_cons pe_str (pa_cons pe_str pa_nil))) rfl) (pss_one (ps_set (i := 3) nd rfl (Or.inl rfl) (pe_ifExp (pt_cmpR op_eq (pv 0) pe_str (nomark _)) (pe_callTy call_int1 rfl N.int PyProof.Rows.boot_int (pa_cons (pe_cmpR op_lt (pv 1) (pv 2) (nomark _)) pa_nil)) (pe_callTy call_int1 rfl N.int PyProof.Rows.boot_int (pa_cons (pe_cmpR op_eq (pv 1) (pv 2) (nomark _)) pa_nil))))) (pss_cons (ps_set (i := 3) nd rfl (Or.inl rfl) (pe_op op_and (pv 1) (pv 2)))
      (pss_cons (ps_if (pt_cmpR op_eq (pv 0) pe_str (nomark _)) (pss_one (ps_set (i := 3) nd rfl (Or.inl rfl) (pe_op op_or (pv 1) (pv 2)))) pss_nil)
      (pss_one (ps_if (pt_cmpR op_eq (pv 0) pe_str (nomark _)) (pss_one (ps_set (i := 3) nd rfl (Or.inl rfl) (pe_op op_xor (pv 1) (pv 2)))) pss_nil)))))))))))
      (pss_one (ps_ret (pe_tup (pa_cons pe_str (pa_cons (pe_op op_sub (pe_op op_mod (pe_op op_add (pv 3) pe_int) pe_int) pe_int) pa_nil)))))), ?_⟩
  have fin : ∀ (H1 : Hp) (n : Int), Same H H1 → sgR sg a b = .ok (kept n) → tRet (tTup (tCons (tC (.str "")) (tCons (tOp (rI0 fun i j => .int (i - j)) (tOp (rI (fun _ j => 0 < j) fun i j => .int (i % j)) (tOp (rI0 fun i j => .int (i + j)) (tVar 3) (tC (.int 9223372036854775808))) (tC (.int 18446744073709551616))) (tC (.int 9223372036854775808))) tNil)))
      { nx := fun _ H' => Q .non H', rt := Q } [some (.str sg), some (.int a), some (.int b), some (.int n)] H1 := fun H1 n s1 e =>
    ⟨_, rfl, _, _, rfl, rfl, _, _, rfl, rfl, (by show (0 : Int) < 18446744073709551616; decide), _, _, rfl, rfl, (by show 2 ≤ sizeLine; decide), fun t nt => k _ t (same_upd s1 (s1.free nt)) (by rw [upd_same, e]; rfl)⟩
  have hk : ∀ r, doneR sg a b = some r → sgR sg a b = .ok (kept r) := fun r e => by
    unfold sgR; rw [e, kept_self (done_in hs ha hb e)]
  have hk' : ∀ n, doneR sg a b = some (kept n) → sgR sg a b = .ok (kept n) := fun n e => by unfold sgR; rw [e]
  have hn : doneR sg a b = none → ∀ t H1, Same H H1 → H1 t = some (.tup [.str "nought", .int 0]) → Q (.ref t) H1 := fun e t H1 s1 et => k H1 t s1 (by rw [et]; unfold sgR; rw [e]; rfl)
  simp only [signs, List.mem_cons, List.not_mem_nil, or_false] at hs
  have su : ∀ {t : Addr} {o : HO}, H t = none → Same H (upd H t o) := fun h => same_upd (Same.refl H) h
  have su2 : ∀ {t t' : Addr} {o o' : HO}, H t = none → upd H t o t' = none → Same H (upd (upd H t o) t' o') := fun h h' => (same_upd (Same.refl H) h).trans (same_upd (Same.refl _) h')
  have su3 : ∀ {t t' t'' : Addr} {o o' o'' : HO}, H t = none → upd H t o t' = none → upd (upd H t o) t' o' t'' = none → Same H (upd (upd (upd H t o) t' o') t'' o'') := fun h h' h'' => ((same_upd (Same.refl H) h).trans (same_upd (Same.refl _) h')).trans (same_upd (Same.refl _) h'')
  rcases hs with rfl | rfl | rfl | rfl | rfl | rfl | rfl | rfl | rfl | rfl | rfl | rfl
  · refine ⟨_, rfl, rfl, _, rfl, iteF ⟨_, rfl, rfl, _, rfl, iteF (⟨_, rfl, (by show 3 ≤ sizeLine; decide), fun t nt => ⟨t, _, rfl, .inr (SqT.of upd_same), rfl, rfl, _, rfl, iteT ⟨_, rfl, rfl, _, rfl, iteT ⟨_, rfl, _, rfl, _, _, rfl, rfl, _, rfl, rfl, _, rfl, iteF (fin _ _ (su nt) (hk' _ rfl))⟩⟩⟩⟩)⟩⟩
  · refine ⟨_, rfl, rfl, _, rfl, iteF ⟨_, rfl, rfl, _, rfl, iteF (⟨_, rfl, (by show 3 ≤ sizeLine; decide), fun t nt => ⟨t, _, rfl, .inr (SqT.of upd_same), rfl, rfl, _, rfl, iteT ⟨_, rfl, rfl, _, rfl, iteF ⟨_, rfl, _, rfl, _, _, rfl, rfl, _, rfl, rfl, _, rfl, iteF (fin _ _ (su nt) (hk' _ rfl))⟩⟩⟩⟩)⟩⟩
  · refine ⟨_, rfl, rfl, _, rfl, iteF ⟨_, rfl, rfl, _, rfl, iteF (⟨_, rfl, (by show 3 ≤ sizeLine; decide), fun t nt => ⟨t, _, rfl, .inr (SqT.of upd_same), rfl, rfl, _, rfl, iteT ⟨_, rfl, rfl, _, rfl, iteF ⟨_, rfl, _, rfl, _, _, rfl, rfl, _, rfl, rfl, _, rfl, iteT ⟨_, rfl, _, rfl, _, _, rfl, rfl, .inl ⟨by omega, by omega⟩, fin _ _ (su nt) (hk' _ rfl)⟩⟩⟩⟩⟩)⟩⟩
  · refine ⟨_, rfl, rfl, _, rfl, iteT ⟨_, rfl, rfl, _, rfl, ?_⟩⟩
    by_cases z : b = 0
    · rw [decide_eq_true (by rw [z])]
      exact iteT ⟨(by show 2 ≤ sizeLine; decide), fun t nt => hn (by show (if b = 0 then none else some _) = none; rw [if_pos z]) t _ (su nt) upd_same⟩
    · rw [decide_eq_false (by intro q; cases q; exact z rfl)]
      exact iteF ⟨_, rfl, rfl, _, rfl, iteT ⟨_, rfl, _, rfl, _, _, rfl, rfl, ⟨z, by omega, by omega⟩, fin _ _ (Same.refl H) (hk' _ (by show (if b = 0 then none else some _) = some _; rw [if_neg z]))⟩⟩
  · refine ⟨_, rfl, rfl, _, rfl, iteF ⟨_, rfl, rfl, _, rfl, iteT ⟨_, rfl, rfl, _, rfl, ?_⟩⟩⟩
    by_cases z : b = 0
    · rw [decide_eq_true (by rw [z])]
      exact iteT ⟨(by show 2 ≤ sizeLine; decide), fun t nt => hn (by show (if b = 0 then none else some _) = none; rw [if_pos z]) t _ (su nt) upd_same⟩
    · rw [decide_eq_false (by intro q; cases q; exact z rfl)]
      have e : doneR "rest" a b = some (a - a.fdiv b * b) := by
        show (if b = 0 then none else some (a.fmod b)) = _
        rw [if_neg z]
        congr 1
        have := Int.mul_fdiv_add_fmod a b
        rw [Int.mul_comm] at this
        omega
      exact iteF ⟨_, rfl, rfl, _, rfl, iteF ⟨_, rfl, _, rfl, _, rfl, _, _, rfl, rfl, ⟨z, by omega, by omega⟩, _, rfl, _, _, rfl, rfl, .inr ⟨by omega, by omega⟩, _, _, rfl, rfl, fin _ _ (Same.refl H) (hk _ e)⟩⟩
  · exact ⟨_, rfl, rfl, _, rfl, iteF ⟨_, rfl, rfl, _, rfl, iteF (⟨_, rfl, (by show 3 ≤ sizeLine; decide), fun t nt => ⟨t, _, rfl, .inr (SqT.of upd_same), rfl, rfl, _, rfl, iteF (⟨_, rfl, (by show 2 ≤ sizeLine; decide), fun u nu => ⟨u, _, rfl, .inr (SqT.of upd_same), rfl, rfl, _, rfl, iteT ⟨_, rfl, rfl, _, rfl, iteT ⟨_, rfl, _, rfl, _, _, rfl, fin _ _ (su2 nt nu) (hk _ rfl)⟩⟩⟩⟩)⟩⟩)⟩⟩
  · exact ⟨_, rfl, rfl, _, rfl, iteF ⟨_, rfl, rfl, _, rfl, iteF (⟨_, rfl, (by show 3 ≤ sizeLine; decide), fun t nt => ⟨t, _, rfl, .inr (SqT.of upd_same), rfl, rfl, _, rfl, iteF (⟨_, rfl, (by show 2 ≤ sizeLine; decide), fun u nu => ⟨u, _, rfl, .inr (SqT.of upd_same), rfl, rfl, _, rfl, iteT ⟨_, rfl, rfl, _, rfl, iteF ⟨_, rfl, _, rfl, _, _, rfl, fin _ _ (su2 nt nu) (hk _ rfl)⟩⟩⟩⟩)⟩⟩)⟩⟩
  · refine ⟨_, rfl, rfl, _, rfl, iteF ⟨_, rfl, rfl, _, rfl, iteF (⟨_, rfl, (by show 3 ≤ sizeLine; decide), fun t nt => ⟨t, _, rfl, .inr (SqT.of upd_same), rfl, rfl, _, rfl, iteF (⟨_, rfl, (by show 2 ≤ sizeLine; decide), fun u nu => ⟨u, _, rfl, .inr (SqT.of upd_same), rfl, rfl, _, rfl, iteF (⟨_, rfl, (by show 2 ≤ sizeLine; decide), fun v nv => ⟨v, _, rfl, .inr (SqT.of upd_same), rfl, rfl, _, rfl, iteT ?_⟩⟩)⟩⟩)⟩⟩)⟩⟩
    refine ⟨_, rfl, rfl, _, rfl, iteT ⟨_, rfl, _, rfl, _, _, rfl, rfl, .inr ⟨_, rfl, fin _ _ (su3 nt nu nv) (hk _ ?_)⟩⟩⟩
    show some (if a < b then (1 : Int) else 0) = _
    by_cases z : a < b
    · rw [if_pos z, decide_eq_true z]; rfl
    · rw [if_neg z, decide_eq_false z]; rfl
  · refine ⟨_, rfl, rfl, _, rfl, iteF ⟨_, rfl, rfl, _, rfl, iteF (⟨_, rfl, (by show 3 ≤ sizeLine; decide), fun t nt => ⟨t, _, rfl, .inr (SqT.of upd_same), rfl, rfl, _, rfl, iteF (⟨_, rfl, (by show 2 ≤ sizeLine; decide), fun u nu => ⟨u, _, rfl, .inr (SqT.of upd_same), rfl, rfl, _, rfl, iteF (⟨_, rfl, (by show 2 ≤ sizeLine; decide), fun v nv => ⟨v, _, rfl, .inr (SqT.of upd_same), rfl, rfl, _, rfl, iteT ?_⟩⟩)⟩⟩)⟩⟩)⟩⟩
    refine ⟨_, rfl, rfl, _, rfl, iteF ⟨_, rfl, _, rfl, rfl, .inr ⟨_, rfl, fin _ _ (su3 nt nu nv) (hk _ ?_)⟩⟩⟩
    show some (if a = b then (1 : Int) else 0) = _
    by_cases z : a = b
    · rw [if_pos z, decide_eq_true (by rw [z])]; rfl
    · rw [if_neg z, decide_eq_false (by intro q; cases q; exact z rfl)]; rfl
  · refine ⟨_, rfl, rfl, _, rfl, iteF ⟨_, rfl, rfl, _, rfl, iteF (⟨_, rfl, (by show 3 ≤ sizeLine; decide), fun t nt => ⟨t, _, rfl, .inr (SqT.of upd_same), rfl, rfl, _, rfl, iteF (⟨_, rfl, (by show 2 ≤ sizeLine; decide), fun u nu => ⟨u, _, rfl, .inr (SqT.of upd_same), rfl, rfl, _, rfl, iteF (⟨_, rfl, (by show 2 ≤ sizeLine; decide), fun v nv => ⟨v, _, rfl, .inr (SqT.of upd_same), rfl, rfl, _, rfl, iteF ?_⟩⟩)⟩⟩)⟩⟩)⟩⟩
    exact ⟨_, rfl, _, rfl, _, _, rfl, rfl, _, rfl, rfl, _, rfl, iteF ⟨_, rfl, rfl, _, rfl, iteF (fin _ _ (su3 nt nu nv) (hk _ rfl))⟩⟩
  · refine ⟨_, rfl, rfl, _, rfl, iteF ⟨_, rfl, rfl, _, rfl, iteF (⟨_, rfl, (by show 3 ≤ sizeLine; decide), fun t nt => ⟨t, _, rfl, .inr (SqT.of upd_same), rfl, rfl, _, rfl, iteF (⟨_, rfl, (by show 2 ≤ sizeLine; decide), fun u nu => ⟨u, _, rfl, .inr (SqT.of upd_same), rfl, rfl, _, rfl, iteF (⟨_, rfl, (by show 2 ≤ sizeLine; decide), fun v nv => ⟨v, _, rfl, .inr (SqT.of upd_same), rfl, rfl, _, rfl, iteF ?_⟩⟩)⟩⟩)⟩⟩)⟩⟩
    exact ⟨_, rfl, _, rfl, _, _, rfl, rfl, _, rfl, rfl, _, rfl, iteT ⟨_, rfl, _, rfl, _, _, rfl, rfl, _, rfl, rfl, _, rfl, iteF (fin _ _ (su3 nt nu nv) (hk _ rfl))⟩⟩
  · refine ⟨_, rfl, rfl, _, rfl, iteF ⟨_, rfl, rfl, _, rfl, iteF (⟨_, rfl, (by show 3 ≤ sizeLine; decide), fun t nt => ⟨t, _, rfl, .inr (SqT.of upd_same), rfl, rfl, _, rfl, iteF (⟨_, rfl, (by show 2 ≤ sizeLine; decide), fun u nu => ⟨u, _, rfl, .inr (SqT.of upd_same), rfl, rfl, _, rfl, iteF (⟨_, rfl, (by show 2 ≤ sizeLine; decide), fun v nv => ⟨v, _, rfl, .inr (SqT.of upd_same), rfl, rfl, _, rfl, iteF ?_⟩⟩)⟩⟩)⟩⟩)⟩⟩
    exact ⟨_, rfl, _, rfl, _, _, rfl, rfl, _, rfl, rfl, _, rfl, iteF ⟨_, rfl, rfl, _, rfl, iteT ⟨_, rfl, _, rfl, _, _, rfl, rfl, fin _ _ (su3 nt nu nv) (hk _ rfl)⟩⟩⟩
structure Works3 (P : Program) (w : World) (K : PySem.W.Frag) (mg : Str → Option Value) (base : Heap) (c : F2.Cs) (CN OU : Addr) (al : Bool) (fs : List F2.Fn) : Prop where
  num : ∀ k n, F2.Worth P w K mg base c CN OU 1 fs k (.num n)
  here : ∀ k, F2.Worth P w K mg base c CN OU 1 fs k .here
  cell : al = true → ∀ k r, F2.Worth P w K mg base c CN OU 3 fs k (.cell r)
  shi : al = true → ∀ k r b o, F2.Worth P w K mg base c CN OU 3 fs k (.shi r b o)
  loc : ∀ k a, F2.Worth P w K mg base c CN OU 1 fs k (.loc a)
  at' : ∀ k r p rm, 2 ≤ rm → F2.Worth P w K mg base c CN OU rm fs k p → F2.Worth P w K mg base c CN OU (rm + 1) fs k (.at' r p)
  pair : ∀ k sg l r rm, 3 ≤ rm → F2.Worth P w K mg base c CN OU rm fs k l → F2.Worth P w K mg base c CN OU rm fs k r → F2.Worth P w K mg base c CN OU (rm + 1) fs k (.pair sg l r)
  cho : ∀ k t l r rm, F2.Worth P w K mg base c CN OU rm fs k t → F2.Worth P w K mg base c CN OU rm fs k l → F2.Worth P w K mg base c CN OU rm fs k r → F2.Worth P w K mg base c CN OU (rm + 1) fs k (.cho t l r)
  call : ∀ k a gs rm, 2 ≤ rm → gs.All (F2.Worth P w K mg base c CN OU rm fs k) → (∀ a, 0 ≤ a → a.toNat < k → a.toNat < fs.length → F2.Worth P w K mg base c CN OU rm fs (k - 1) (F2.bodyOf fs a)) → F2.Worth P w K mg base c CN OU (rm + 1) fs k (.call a gs)
def Allowed (al : Bool) : Item → Prop
  | .cell _ => al = true
  | .shi _ _ _ => al = true
  | _ => True
theorem all_of {p : F2.Fm → Prop} : ∀ {l : List F2.Fm}, (∀ f ∈ l, p f) → (ofL l).All p
  | [], _ => trivial
  | f :: r, h => ⟨h f List.mem_cons_self, all_of fun g hg => h g (List.mem_cons_of_mem _ hg)⟩
theorem made_works {c : F2.Cs} {CN OU : Addr} {al : Bool} {fs : List F2.Fn} {k rm : Nat} (W : Works3 P w K mg base c CN OU al fs) (hb : ∀ a, 0 ≤ a → a.toNat < k → a.toNat < fs.length → F2.Worth P w K mg base c CN OU rm fs (k - 1) (F2.bodyOf fs a)) (h3 : 3 ≤ rm) {it : Item} (ha : Allowed al it) {ps : List F2.Fm} (h : ∀ f ∈ ps, F2.Worth P w K mg base c CN OU rm fs k f) : F2.Worth P w K mg base c CN OU (rm + 1) fs k (made it ps) := by
  have g : ∀ i, F2.Worth P w K mg base c CN OU rm fs k (ps.getD i .here) := fun i => by
    by_cases z : i < ps.length
    · exact h _ (getD_mem' z)
    · rw [List.getD_eq_getElem?_getD, List.getElem?_eq_none (by omega)]
      exact (W.here k).mono (by omega)
  cases it with
  | num n => exact (W.num _ _).mono (by omega)
  | here => exact (W.here _).mono (by omega)
  | loc i => exact (W.loc _ _).mono (by omega)
  | pair s => exact W.pair _ _ _ _ _ h3 (g 0) (g 1)
  | cho => exact W.cho _ _ _ _ _ (g 0) (g 1) (g 2)
  | call j => exact W.call _ _ _ _ (by omega) (all_of h) hb
  | cell r => exact (W.cell ha _ _).mono (by omega)
  | shi r b o => exact (W.shi ha _ _ _ _).mono (by omega)
  | at' r => exact W.at' _ _ _ _ (by omega) (g 0)
theorem run_works {c : F2.Cs} {CN OU : Addr} {al : Bool} {fs : List F2.Fn} {k : Nat} {hs : Int → Nat} (W : Works3 P w K mg base c CN OU al fs) : ∀ (its : List Item) (p : List F2.Fm) (rm : Nat), (∀ a, 0 ≤ a → a.toNat < k → a.toNat < fs.length → F2.Worth P w K mg base c CN OU rm fs (k - 1) (F2.bodyOf fs a)) → 3 ≤ rm → (∀ it ∈ its, Allowed al it) → (∀ f ∈ p, F2.Worth P w K mg base c CN OU rm fs k f) → ∀ f ∈ runF hs its p, F2.Worth P w K mg base c CN OU (rm + its.length) fs k f
  | [], p, rm, _, _, _, h => h
  | it :: r, p, rm, hb, h3, ha, h => by
    have q := run_works (hs := hs) W r (p.take (p.length - takes hs it) ++ [made it (p.drop (p.length - takes hs it))]) (rm + 1) (fun a x y z => (hb a x y z).mono (by omega)) (by omega) (fun t ht => ha t (List.mem_cons_of_mem _ ht)) (fun f hf => by
      rcases List.mem_append.mp hf with hf | hf
      · exact (h f (List.mem_of_mem_take hf)).mono (by omega)
      · cases List.mem_singleton.mp hf
        exact made_works W hb h3 (ha it List.mem_cons_self) fun g hg => h g (List.mem_of_mem_drop hg))
    intro f hf
    have := q f hf
    rw [List.length_cons, show rm + (r.length + 1) = rm + 1 + r.length by omega]
    exact this
theorem form_works {c : F2.Cs} {CN OU : Addr} {al : Bool} {fs : List F2.Fn} {k rm : Nat} {hs : Int → Nat} (W : Works3 P w K mg base c CN OU al fs) (its : List Item) (hb : ∀ a, 0 ≤ a → a.toNat < k → a.toNat < fs.length → F2.Worth P w K mg base c CN OU rm fs (k - 1) (F2.bodyOf fs a)) (h3 : 3 ≤ rm) (ha : ∀ it ∈ its, Allowed al it) : F2.Worth P w K mg base c CN OU (rm + its.length) fs k (formOf hs its) := by
  unfold formOf
  by_cases z : 0 < (runF hs its []).length
  · exact run_works W its [] rm hb h3 ha (fun f hf => nomatch hf) _ (getD_mem' z)
  · rw [List.getD_eq_getElem?_getD, List.getElem?_eq_none (by omega)]
    exact (W.here k).mono (by omega)
end
end K13
namespace L2
open PySem PySem.Spec PyProof.Rows
def rAnyI (K : PySem.W.Frag) : List V → Hp → VK → Prop := fun xs H Q => ∃ (p : Addr) (ns : List Int), xs = [.ref p] ∧ SqL K H p (ns.map V.int) ∧ Q (.bl (ns.any fun v => decide (v ≠ 0))) H
section
variable {X : Cx}
end
end L2
namespace L2
open PySem PySem.Spec PyProof.Rows
theorem but_inv {H : Hp} {a b : Addr} {o : HO} (h : but H [a] b = some o) : b ≠ a ∧ H b = some o := by
  unfold but at h
  split at h
  · cases h
  · rename_i z; exact ⟨fun e => z (by rw [e]; exact List.mem_singleton_self a), h⟩
section
variable {X : Cx} {pins : List (Addr × Obj)} {σ σ' : St} {H H' : Hp} {s s' : Shared} {a : Addr} {xs : List V}
theorem Inv.hide (I : Inv X pins σ H s) (e : H a = some (.lst xs)) : ∃ (ob : Obj) (its : List Value) (n : Nat), Vals xs its ∧ ob = { cls := .type "list", data := .seq its.toArray n } ∧ xs.length ≤ sizeLine ∧ Inv X ((a, ob) :: pins) σ (but H [a]) s := by
  obtain ⟨hz, its, n, r, ea⟩ := I.hok a _ e
  have ne : ∀ {b : Addr} {o : HO}, H b = some o → o ≠ .lst xs → b ∉ [a] := fun {b o} z y m => by
    cases List.mem_singleton.mp m
    rw [e] at z; injection z with z; exact y z.symm
  have nn : ∀ {b : Addr}, H b = none → but H [a] b = none := fun {b} z => by
    unfold but; split
    · rfl
    · exact z
  refine ⟨_, its, n, r, rfl, hz, I.ok, I.os, I.bare, ⟨I.base.keep, I.base.slot, fun b o q m x => nn (I.base.free b o q m x), I.base.there, fun b ys q => but_of (I.base.tups b ys q) (ne (I.base.tups b ys q) (fun z => by cases z)), fun b o u q => but_of (I.base.frzs b o u q) (ne (I.base.frzs b o u q) (fun z => by cases z)), fun b ps q => let ⟨more, z⟩ := I.base.tbls b ps q; ⟨more, but_of z (ne z (fun z => by cases z))⟩⟩, I.loc, I.cell, nn I.free, fun x c q => nn (I.freeC x c q), fun p m => ?_, fun b u q => ?_, I.len⟩
  · rcases List.mem_append.mp m with m | m
    · have q := I.pin p (List.mem_append_left _ m)
      exact ⟨q.1, nn q.2.1, q.2.2⟩
    · rcases List.mem_cons.mp m with rfl | m
      · refine ⟨ea, but_none (List.mem_singleton_self a), fun z => ?_, fun z => ?_, fun v z => by cases z⟩
        · have := I.free
          rw [← z] at this
          have e' : H a = some (.lst xs) := e
          rw [e'] at this; cases this
        · obtain ⟨_, o, q, _⟩ := I.ok.funs.mem z
          have := I.base.free a o q (I.ok.frf a z) (fun y => I.ok.exfs a y z)
          rw [e] at this; cases this
      · have q := I.pin p (List.mem_append_right _ m)
        exact ⟨q.1, nn q.2.1, q.2.2⟩
  · obtain ⟨nb, q⟩ := but_inv q
    exact (I.hok b u q).stay (fun _ _ _ z => z) (fun c z => but_of z (ne z (fun y => by cases y))) (fun c ys z => but_of z (ne z (fun y => by cases y)))
theorem Inv.back {ob : Obj} {its : List Value} {n : Nat} (I : Inv X pins σ H s) (e : H a = some (.lst xs)) (r : Vals xs its) (eo : ob = { cls := .type "list", data := .seq its.toArray n }) (hz : xs.length ≤ sizeLine) (J : Inv X ((a, ob) :: pins) σ' H' s') : H' a = none ∧ Inv X pins σ' (upd H' a (.lst xs)) s' := by
  have ea := J.pin (a, ob) (List.mem_append_right _ List.mem_cons_self)
  have na : ∀ {b : Addr}, H b = none → b ≠ a := fun {b} z y => by subst y; rw [e] at z; cases z
  have st : ∀ {b : Addr} {o : HO}, H' b = some o → upd H' a (.lst xs) b = some o := fun {b o} z => by rw [upd_ne (ne_of_none z ea.2.1)]; exact z
  refine ⟨ea.2.1, J.ok, J.os, J.bare, ⟨J.base.keep, J.base.slot, fun b o q m x => ?_, J.base.there, fun b ys q => st (J.base.tups b ys q), fun b o u q => st (J.base.frzs b o u q), fun b ps q => let ⟨more, z⟩ := J.base.tbls b ps q; ⟨more, st z⟩⟩, J.loc, J.cell, ?_, fun x c q => ?_, fun p m => ?_, fun b u q => ?_, J.len⟩
  · rw [upd_ne (na (I.base.free b o q m x))]; exact J.base.free b o q m x
  · rw [upd_ne (na I.free)]; exact J.free
  · rw [upd_ne (na (I.freeC x c q))]; exact J.freeC x c q
  · have q := J.pin p (by
      rcases List.mem_append.mp m with m | m
      · exact List.mem_append_left _ m
      · exact List.mem_append_right _ (List.mem_cons_of_mem _ m))
    exact ⟨q.1, by rw [upd_ne (na (I.pin p m).2.1)]; exact q.2.1, q.2.2⟩
  · by_cases hb : b = a
    · subst hb
      rw [upd_same] at q
      cases q
      subst eo
      exact ⟨hz, its, n, r, ea.1⟩
    · rw [upd_ne hb] at q
      exact (J.hok b u q).stay (fun _ _ _ z => z) (fun c z => st z) (fun c ys z => st z)
def tHide (te : TE) : TE := fun σ H Q => ∃ (a : Addr) (xs : List V), H a = some (.lst xs) ∧ te σ (but H [a]) fun v H' => H' a = none → Q v (upd H' a (.lst xs))
theorem pe_hide {e : Expr} {te : TE} (h : PE X e te) : PE X e (tHide te) := by
  intro pins s σ H Q I q
  obtain ⟨a, xs, ea, q⟩ := q
  obtain ⟨ob, its, n, r, eo, hz, J⟩ := I.hide ea
  refine thn (h _ s σ _ _ J q) fun u s1 z => ?_
  obtain ⟨v, H', J1, rv, q1⟩ := z
  obtain ⟨fr, J2⟩ := I.back ea r eo hz J1
  exact ⟨v, _, J2, rv, q1 fr⟩
end
theorem hide_at {te : TE} {σ : St} {B H : Hp} {a : Addr} {xs : List V} {Q : VK} (h : Hd B [(a, .lst xs)] H) (q : ∀ B', Same B B' → te σ B' fun v H' => H' a = none → Q v (upd H' a (.lst xs))) : tHide te σ H Q :=
  ⟨a, xs, h.get 0 rfl, q _ h.into⟩
namespace Hd
variable {B : Hp} {L L' : List (Addr × HO)} {H : Hp}
theorem split (h : Hd B L H) (s : List.Sublist L' L) : Same B (but H (L'.map Prod.fst)) ∧ Hd (but H (L'.map Prod.fst)) L' H := by
  refine ⟨fun b o z => but_of (h.sm _ _ z) fun m => ?_, (h.sub s).nd, fun p m => but_none (List.mem_map_of_mem m), (h.sub s).st, but_sub⟩
  obtain ⟨p, mp, e⟩ := List.mem_map.mp m
  have := h.nw p (s.subset mp)
  rw [e] at this
  rw [this] at z; cases z
end Hd
end L2
namespace L2
open PySem PySem.Spec PyProof.Rows
section
variable {X : Cx}
end
theorem cutV_takeV {xs : List V} {b : Int} (hb : 0 ≤ b) : cutV xs none (some b) = xs.take b.toNat := by
  unfold cutV
  rw [HT.sIx_none, sIx_pos hb, List.drop_zero, Nat.sub_zero]
  rw [List.take_eq_take_iff]
  omega
theorem cutV_dropV {xs : List V} {a : Int} (ha : 0 ≤ a) : cutV xs (some a) none = xs.drop a.toNat := by
  unfold cutV
  rw [HT.sIx_none, sIx_pos ha]
  by_cases h : a.toNat ≤ xs.length
  · rw [Nat.min_eq_left h]
    exact List.take_of_length_le (by rw [List.length_drop]; omega)
  · have e1 : xs.drop xs.length = [] := List.drop_length
    have e2 : xs.drop a.toNat = [] := List.drop_eq_nil_of_le (by omega)
    rw [Nat.min_eq_right (by omega), e1, e2]
    simp
end L2
namespace L2
open PySem PySem.Spec PyProof.Rows
def constV : Expr → Option V
  | .Constant (.str x) _ _ => some (.str x)
  | .Constant (.int i) _ _ => some (.int i)
  | _ => none
def constsV : List Expr → Option (List V)
  | [] => some []
  | e :: es => match constV e with
    | some v => (match constsV es with
      | some vs => some (v :: vs)
      | none => none)
    | none => none
def tKs (vs : List V) : TA := fun _ H Q => Q vs H
theorem pa_ks {X : Cx} : ∀ {es : List Expr} {vs : List V}, constsV es = some vs → PA X es (tKs vs)
  | [], vs, h => by cases h; exact pa_nil
  | e :: es, vs, h => by
    unfold constsV at h
    split at h
    · rename_i v hv
      split at h
      · rename_i ws hw
        cases h
        have ih := pa_ks (X := X) hw
        unfold constV at hv
        split at hv
        · cases hv; exact pa_cons pe_str ih rfl
        · cases hv; exact pa_cons pe_int ih rfl
        · cases hv
      · cases h
    · cases h
end L2
namespace L2
open PySem PySem.Spec PyProof.Rows
structure PB (X : Cx) (sts : List Stmt) (t : TS) : Prop where
  h : PSs X sts t
structure PW1 (X : Cx) (st : Stmt) (t : TS) : Prop where
  h : PS X st t
section
variable {X : Cx} {st : Stmt} {rest : List Stmt} {t u : TS}
theorem pb_cons (h1 : PW1 X st t) (h2 : PB X rest u) : PB X (st :: rest) (tSeq t u) := ⟨pss_cons h1.h h2.h⟩
theorem pb_one (h1 : PW1 X st t) : PB X [st] t := ⟨pss_one h1.h⟩
theorem pw_ks {i : Nat} {x : Str} {es : List Expr} {vs : List V} {p pos pos' : Pos} (hN : X.N.Nodup) (hi : X.N[i]? = some x) (hx : Loc X.env.scope x) (h : constsV es = some vs) (hf : X.fn x = true ∨ X.env.scope.names.lookup x = some .local := by first | exact .inl rfl | exact .inr rfl | assumption) :
    PW1 X (.Assign [.Name x pos'] (.List es p) pos) (tAsg (tLst (tKs vs)) (gName i)) := ⟨ps_set hN hi hx (pe_lst (pa_ks h)) rfl hf⟩
end
section
variable {P : Program} {w : World} {K : PySem.W.Frag} {mg : Str → Option Value} {base : Heap}
theorem Fun.okB {x qual : Str} {st : Stmt} {f : Addr} {fd : FuncData} {N ps : List Str} {k : Nat} {sp : Sp} (F : Fun K x qual st f fd) (S : FnScope N ps (defScope st)) (len : ∀ vs H Q E, sp vs H Q E → vs.length = ps.length)
    (hbody : ∀ (cdv : Value) (A : Around) (outer : List Env) (s : Shared) (H : Hp) (vs : List V) (Q : VK) (E : XK), Room k (A.deeper (envOfC qual (defScope st) s.heap.objs.size f cdv)) → sp vs H Q E →
      ∃ t, PB (cxOf CX0 P w K mg base N qual (defScope st) f cdv A outer s H E).nox (defBody st) t ∧ t { nx := fun _ H' => Q .non H', rt := Q } (start N vs) H) : FnOk P w K mg base CX0 (k + 1) f fd ps sp :=
  F.ok S len fun cdv A outer s H vs Q E hr h => let ⟨t, q, z⟩ := hbody cdv A outer s H vs Q E hr h; ⟨t, q.h, z⟩
end
end L2
namespace K13
open PySem L2 FM PO
structure FnL where
  hands : Nat
  post : List Item
  size : Int
  depth : Int
def FnAt (H : Hp) (f : FnL) (t : Addr) : Prop := ∃ (pa : Addr) (Ps : List (Item × Addr)), H t = some (.tup [.int (f.hands : Int), .ref pa, .int f.size, .int f.depth]) ∧ H pa = some (.lst (Ps.map fun p => V.ref p.2)) ∧ f.post = Ps.map Prod.fst ∧ ∀ p ∈ Ps, H p.2 = some (.tup p.1.v)
theorem FnAt.same {H H' : Hp} {f : FnL} {t : Addr} (h : FnAt H f t) (s : Same H H') : FnAt H' f t := by
  obtain ⟨pa, Ps, a, b, e, d⟩ := h
  exact ⟨pa, Ps, s _ _ a, s _ _ b, e, fun p hp => s _ _ (d p hp)⟩
structure LFuns (K : PySem.W.Frag) (H : Hp) (fa : Addr) (ls : List FnL) : Prop where
  ex : ∃ Ts : List (FnL × Addr), SqL K H fa (Ts.map fun p => V.ref p.2) ∧ ls = Ts.map Prod.fst ∧ ∀ p ∈ Ts, FnAt H p.1 p.2
theorem LFuns.same {K : PySem.W.Frag} {H H' : Hp} {fa : Addr} {ls : List FnL} (h : LFuns K H fa ls) (s : Same H H') : LFuns K H' fa ls := by
  obtain ⟨Ts, a, b, d⟩ := h.ex
  exact ⟨Ts, sql_same a s, b, fun p hp => (d p hp).same s⟩
def hsL (ls : List FnL) : Int → Nat := fun j => (ls.getD j.toNat ⟨0, [], 0, 0⟩).hands
theorem LFuns.get {K : PySem.W.Frag} {H : Hp} {fa : Addr} {ls : List FnL} (h : LFuns K H fa ls) {j : Int} (h0 : 0 ≤ j) (h1 : j.toNat < ls.length) : ∃ (xs : List V) (t : Addr), SqL K H fa xs ∧ atI xs j = some (.ref t) ∧ FnAt H (ls.getD j.toNat ⟨0, [], 0, 0⟩) t := by
  obtain ⟨Ts, a, b, d⟩ := h.ex
  subst b
  rw [List.length_map] at h1
  obtain ⟨n, rfl⟩ : ∃ n : Nat, j = n := ⟨j.toNat, by omega⟩
  rw [Int.toNat_natCast] at *
  refine ⟨_, Ts[n].2, a, atI_nat ?_, ?_⟩
  · rw [List.getElem?_map, List.getElem?_eq_getElem h1]; rfl
  · rw [List.getD_eq_getElem?_getD, List.getElem?_map, List.getElem?_eq_getElem h1]
    exact d _ (List.getElem_mem h1)
def ItG (wd : List Int) (nr m n : Nat) : Item → Prop
  | .num a => Kin a
  | .here => True
  | .loc i => 0 ≤ i ∧ i.toNat < m
  | .pair s => s ∈ FM.signs
  | .cho => True
  | .call j => 0 ≤ j ∧ j.toNat < n
  | .cell r => r ∈ wd
  | .shi r _ o => 0 ≤ r ∧ r.toNat < nr ∧ Kin o
  | .at' r => 0 ≤ r ∧ r.toNat < nr
section
variable {P : Program} {w : World} {K : PySem.W.Frag} {mg : Str → Option Value} {base : Heap}
def spTakes (K : PySem.W.Frag) : Sp := fun vs H Q _ => ∃ (x fa : Addr) (it : Item) (ls : List FnL), vs = [.ref x, .ref fa] ∧ H x = some (.tup it.v) ∧ LFuns K H fa ls ∧ (∀ j, it = .call j → 0 ≤ j ∧ j.toNat < ls.length) ∧ Q (.int (takes (hsL ls) it : Nat)) H
theorem ok_takes (d : DefIn K mg "_law_takes" s_l_takes ["_law_item", "_law_functions"]) : Ok P w K mg base (CXe P w base) 1 "_law_takes" ["_law_item", "_law_functions"] (spTakes K) := by
  obtain ⟨g, fd, m, F, b⟩ := d
  refine ⟨g, fd, m, F.kp, b, F.okE sc_l_takes (fun vs H Q E ⟨_, _, _, _, e, _⟩ => by rw [e]; rfl) fun cdv A outer s H vs Q E hr h => ?_⟩
  obtain ⟨x, fa, it, ls, rfl, hx, hf, hc, k⟩ := h
  refine ⟨_, (pss_cons (ps_if (pt_cmpR op_eq (pe_ix ix_tup (pv 0) pe_int (fun _ _ => rfl)) pe_str (nomark _)) (pss_one (ps_ret pe_int)) pss_nil)
      (pss_cons (ps_if (pt_cmpR op_eq (pe_ix ix_tup (pv 0) pe_int (fun _ _ => rfl)) pe_str (nomark _)) (pss_one (ps_ret pe_int)) pss_nil)
      (pss_cons (ps_if (pt_cmpR op_eq (pe_ix ix_tup (pv 0) pe_int (fun _ _ => rfl)) pe_str (nomark _)) (pss_one (ps_ret pe_int)) pss_nil)
      (pss_cons (ps_if (pt_cmpR op_eq (pe_ix ix_tup (pv 0) pe_int (fun _ _ => rfl)) pe_str (nomark _)) (pss_one (ps_ret (pe_ix ix_tup (pe_ix ix_list (pv 1) (pe_ix ix_tup (pv 0) pe_int (fun _ _ => rfl)) (fun _ _ => rfl)) pe_int (fun _ _ => rfl)))) pss_nil)
      (pss_one (ps_ret pe_int)))))), ?_⟩
  cases it with
  | num n => exact ⟨_, rfl, x, _, 0, .str "number", rfl, rfl, SqT.of hx, rfl, rfl, _, rfl, iteF ⟨_, rfl, x, _, 0, .str "number", rfl, rfl, SqT.of hx, rfl, rfl, _, rfl, iteF ⟨_, rfl, x, _, 0, .str "number", rfl, rfl, SqT.of hx, rfl, rfl, _, rfl, iteF ⟨_, rfl, x, _, 0, .str "number", rfl, rfl, SqT.of hx, rfl, rfl, _, rfl, iteF k⟩⟩⟩⟩
  | here => exact ⟨_, rfl, x, _, 0, .str "here", rfl, rfl, SqT.of hx, rfl, rfl, _, rfl, iteF ⟨_, rfl, x, _, 0, .str "here", rfl, rfl, SqT.of hx, rfl, rfl, _, rfl, iteF ⟨_, rfl, x, _, 0, .str "here", rfl, rfl, SqT.of hx, rfl, rfl, _, rfl, iteF ⟨_, rfl, x, _, 0, .str "here", rfl, rfl, SqT.of hx, rfl, rfl, _, rfl, iteF k⟩⟩⟩⟩
  | loc i => exact ⟨_, rfl, x, _, 0, .str "local", rfl, rfl, SqT.of hx, rfl, rfl, _, rfl, iteF ⟨_, rfl, x, _, 0, .str "local", rfl, rfl, SqT.of hx, rfl, rfl, _, rfl, iteF ⟨_, rfl, x, _, 0, .str "local", rfl, rfl, SqT.of hx, rfl, rfl, _, rfl, iteF ⟨_, rfl, x, _, 0, .str "local", rfl, rfl, SqT.of hx, rfl, rfl, _, rfl, iteF k⟩⟩⟩⟩
  | pair s => exact ⟨_, rfl, x, _, 0, .str "pair", rfl, rfl, SqT.of hx, rfl, rfl, _, rfl, iteF ⟨_, rfl, x, _, 0, .str "pair", rfl, rfl, SqT.of hx, rfl, rfl, _, rfl, iteT k⟩⟩
  | cho => exact ⟨_, rfl, x, _, 0, .str "choice", rfl, rfl, SqT.of hx, rfl, rfl, _, rfl, iteF ⟨_, rfl, x, _, 0, .str "choice", rfl, rfl, SqT.of hx, rfl, rfl, _, rfl, iteF ⟨_, rfl, x, _, 0, .str "choice", rfl, rfl, SqT.of hx, rfl, rfl, _, rfl, iteT k⟩⟩⟩
  | call j =>
    obtain ⟨h0, h1⟩ := hc j rfl
    obtain ⟨xs, t, a1, a2, a3⟩ := hf.get h0 h1
    obtain ⟨pa, Ps, b1, _⟩ := id a3
    refine ⟨_, rfl, x, _, 0, .str "call", rfl, rfl, SqT.of hx, rfl, rfl, _, rfl, iteF ⟨_, rfl, x, _, 0, .str "call", rfl, rfl, SqT.of hx, rfl, rfl, _, rfl, iteF ⟨_, rfl, x, _, 0, .str "call", rfl, rfl, SqT.of hx, rfl, rfl, _, rfl, iteF ⟨_, rfl, x, _, 0, .str "call", rfl, rfl, SqT.of hx, rfl, rfl, _, rfl, iteT ?_⟩⟩⟩⟩
    exact ⟨_, rfl, _, rfl, x, _, 1, .int j, rfl, rfl, SqT.of hx, rfl, fa, _, _, _, rfl, rfl, a1, a2, t, _, 0, _, rfl, rfl, SqT.of b1, rfl, k⟩
  | cell r => exact ⟨_, rfl, x, _, 0, .str "cell", rfl, rfl, SqT.of hx, rfl, rfl, _, rfl, iteF ⟨_, rfl, x, _, 0, .str "cell", rfl, rfl, SqT.of hx, rfl, rfl, _, rfl, iteF ⟨_, rfl, x, _, 0, .str "cell", rfl, rfl, SqT.of hx, rfl, rfl, _, rfl, iteF ⟨_, rfl, x, _, 0, .str "cell", rfl, rfl, SqT.of hx, rfl, rfl, _, rfl, iteF k⟩⟩⟩⟩
  | shi r b o => exact ⟨_, rfl, x, _, 0, .str "shifted", rfl, rfl, SqT.of hx, rfl, rfl, _, rfl, iteF ⟨_, rfl, x, _, 0, .str "shifted", rfl, rfl, SqT.of hx, rfl, rfl, _, rfl, iteF ⟨_, rfl, x, _, 0, .str "shifted", rfl, rfl, SqT.of hx, rfl, rfl, _, rfl, iteF ⟨_, rfl, x, _, 0, .str "shifted", rfl, rfl, SqT.of hx, rfl, rfl, _, rfl, iteF k⟩⟩⟩⟩
  | at' r => exact ⟨_, rfl, x, _, 0, .str "at", rfl, rfl, SqT.of hx, rfl, rfl, _, rfl, iteT k⟩
theorem formsAt_of {c : F2.Cs} {H : Hp} : ∀ {Ps : List (F2.Fm × Addr)}, (∀ p ∈ Ps, F2.FormAt c H p.1 p.2) → F2.FormsAt c H (ofL (Ps.map Prod.fst)) (Ps.map Prod.snd)
  | [], _ => rfl
  | p :: r, h => ⟨p.2, r.map Prod.snd, rfl, h p List.mem_cons_self, formsAt_of fun q hq => h q (List.mem_cons_of_mem _ hq)⟩
theorem pair_at {Ps : List (F2.Fm × Addr)} {i : Nat} (h : i < Ps.length) : ∃ y, (Ps.map fun p => V.ref p.2)[i]? = some (.ref y) ∧ ((Ps.map Prod.fst).getD i .here, y) ∈ Ps := by
  refine ⟨Ps[i].2, by rw [List.getElem?_map, List.getElem?_eq_getElem h]; rfl, ?_⟩
  rw [List.getD_eq_getElem?_getD, List.getElem?_map, List.getElem?_eq_getElem h]
  exact List.getElem_mem h
def spFormBy (K : PySem.W.Frag) (c : F2.Cs) : Sp := fun vs H Q _ => ∃ (x pa : Addr) (it : Item) (Ps : List (F2.Fm × Addr)) (hs : Int → Nat) (wd : List Int) (nr m n : Nat), vs = [.ref x, .ref pa] ∧ H x = some (.tup it.v) ∧ ItG wd nr m n it ∧ SqL K H pa (Ps.map fun p => V.ref p.2) ∧ (∀ p ∈ Ps, F2.FormAt c H p.1 p.2) ∧ Ps.length = takes hs it ∧
  ∀ (H' : Hp) (y : Addr), Same H H' → F2.FormAt c H' (made it (Ps.map Prod.fst)) y → Q (.ref y) H'
theorem ok_formBy {c : F2.Cs} (d : DefIn K mg "_law_form_by" s_l_form_by ["_law_item", "_law_parts"]) (MH : MkN K c.here) (hCe : mg "Here" = some (.ref c.here)) (hCn : mg "Number" = some (.ref c.num)) (hCo : mg "Local" = some (.ref c.loc)) (hCp : mg "Pair" = some (.ref c.pair)) (hCi : mg "Choice" = some (.ref c.cho)) (hCk : mg "Call" = some (.ref c.call)) (hCc : mg "Cell" = some (.ref c.cell)) (hCh : mg "Shifted" = some (.ref c.shi)) (hCa : mg "At" = some (.ref c.at'))
    (IN : OkI P w K mg base (CXe P w base) 1 c.num ["self", "number"] (spI_Number c.num)) (IL : OkI P w K mg base (CXe P w base) 1 c.loc ["self", "at"] (spI_Local c.loc)) (IP : OkI P w K mg base (CXe P w base) 1 c.pair ["self", "sign", "left", "right"] (spI_Pair c.pair)) (IO : OkI P w K mg base (CXe P w base) 1 c.cho ["self", "test", "left", "right"] (spI_Choice c.cho)) (IC : OkI P w K mg base (CXe P w base) 1 c.cell ["self", "row"] (spI_Cell c.cell)) (IH : OkI P w K mg base (CXe P w base) 1 c.shi ["self", "row", "by", "other"] (spI_Shifted c.shi)) (IA : OkI P w K mg base (CXe P w base) 1 c.at' ["self", "row", "place"] (spI_At c.at')) (ICa : OkI P w K mg base (CXe P w base) 1 c.call ["self", "at", "handed"] (spI_Call K c.call)) :
    Ok P w K mg base (CXe P w base) 3 "_law_form_by" ["_law_item", "_law_parts"] (spFormBy K c) := by
  obtain ⟨g, fd, m, F, b⟩ := d
  refine ⟨g, fd, m, F.kp, b, F.okE sc_l_form_by (fun vs H Q E ⟨_, _, _, _, _, _, _, _, _, e, _⟩ => by rw [e]; rfl) fun cdv A outer s H vs Q E hr h => ?_⟩
  obtain ⟨x, pa, it, Ps, hs, wd, nr, m', n', rfl, hx, hg, hp, hA, hl, q⟩ := h
  have hr2 := hr
  refine ⟨_, (pss_cons (ps_if (pt_cmpR op_eq (pe_ix ix_tup (pv 0) pe_int (fun _ _ => rfl)) pe_str (nomark _)) (pss_one (ps_ret (pe_okI IN hCn hr2 (by rfl) passF (pa_cons (pe_ix ix_tup (pv 0) pe_int (fun _ _ => rfl)) pa_nil)))) pss_nil)
      (pss_cons (ps_if (pt_cmpR op_eq (pe_ix ix_tup (pv 0) pe_int (fun _ _ => rfl)) pe_str (nomark _)) (pss_one (ps_ret (pe_makeN MH (by rfl) hCe))) pss_nil)
      (pss_cons (ps_if (pt_cmpR op_eq (pe_ix ix_tup (pv 0) pe_int (fun _ _ => rfl)) pe_str (nomark _)) (pss_one (ps_ret (pe_okI IL hCo hr2 (by rfl) passF (pa_cons (pe_ix ix_tup (pv 0) pe_int (fun _ _ => rfl)) pa_nil)))) pss_nil)
      (pss_cons (ps_if (pt_cmpR op_eq (pe_ix ix_tup (pv 0) pe_int (fun _ _ => rfl)) pe_str (nomark _)) (pss_one (ps_ret (pe_okI IP hCp hr2 (by rfl) passF (pa_cons (pe_ix ix_tup (pv 0) pe_int (fun _ _ => rfl)) (pa_cons (pe_ix ix_list (pv 1) pe_int (fun _ _ => rfl)) (pa_cons (pe_ix ix_list (pv 1) pe_int (fun _ _ => rfl)) pa_nil)))))) pss_nil)
      (pss_cons (ps_if (pt_cmpR op_eq (pe_ix ix_tup (pv 0) pe_int (fun _ _ => rfl)) pe_str (nomark _)) (pss_one (ps_ret (pe_okI IO hCi hr2 (by rfl) passF (pa_cons (pe_ix ix_list (pv 1) pe_int (fun _ _ => rfl)) (pa_cons (pe_ix ix_list (pv 1) pe_int (fun _ _ => rfl)) (pa_cons (pe_ix ix_list (pv 1) pe_int (fun _ _ => rfl)) pa_nil)))))) pss_nil)
      (pss_cons (ps_if (pt_cmpR op_eq (pe_ix ix_tup (pv 0) pe_int (fun _ _ => rfl)) pe_str (nomark _)) (pss_one (ps_ret (pe_okI ICa hCk hr2 (by rfl) passF (pa_cons (pe_ix ix_tup (pv 0) pe_int (fun _ _ => rfl)) (pa_cons (pv 1) pa_nil))))) pss_nil)
      (pss_cons (ps_if (pt_cmpR op_eq (pe_ix ix_tup (pv 0) pe_int (fun _ _ => rfl)) pe_str (nomark _)) (pss_one (ps_ret (pe_okI IC hCc hr2 (by rfl) passF (pa_cons (pe_ix ix_tup (pv 0) pe_int (fun _ _ => rfl)) pa_nil)))) pss_nil)
      (pss_cons (ps_if (pt_cmpR op_eq (pe_ix ix_tup (pv 0) pe_int (fun _ _ => rfl)) pe_str (nomark _)) (pss_one (ps_ret (pe_okI IH hCh hr2 (by rfl) passF (pa_cons (pe_ix ix_tup (pv 0) pe_int (fun _ _ => rfl)) (pa_cons (pe_ix ix_tup (pv 0) pe_int (fun _ _ => rfl)) (pa_cons (pe_ix ix_tup (pv 0) pe_int (fun _ _ => rfl)) pa_nil)))))) pss_nil)
      (pss_one (ps_ret (pe_okI IA hCa hr2 (by rfl) passF (pa_cons (pe_ix ix_tup (pv 0) pe_int (fun _ _ => rfl)) (pa_cons (pe_ix ix_list (pv 1) pe_int (fun _ _ => rfl)) pa_nil))))))))))))), ?_⟩
  have two : ∀ i, i < Ps.length → ∃ y, (Ps.map fun p => V.ref p.2)[i]? = some (.ref y) ∧ F2.FormAt c H ((Ps.map Prod.fst).getD i .here) y := fun i hi => let ⟨y, a, b⟩ := pair_at hi; ⟨y, a, hA _ b⟩
  cases it with
  | num n =>
    refine ⟨_, rfl, x, _, 0, .str "number", rfl, rfl, SqT.of hx, rfl, rfl, _, rfl, iteT ?_⟩
    exact ⟨_, rfl, x, _, 1, .int n, rfl, rfl, SqT.of hx, rfl, fun y dy ny ndy _ => ⟨y, dy, _, rfl, upd_same, fun J k e => ⟨rfl, q J y (made_same ny ndy k) ⟨dy, e⟩⟩⟩⟩
  | here =>
    refine ⟨_, rfl, x, _, 0, .str "here", rfl, rfl, SqT.of hx, rfl, rfl, _, rfl, iteF ⟨_, rfl, x, _, 0, .str "here", rfl, rfl, SqT.of hx, rfl, rfl, _, rfl, iteT ?_⟩⟩
    exact fun y dy ny ndy _ => q _ y (same_upd (same_upd (Same.refl _) ndy) ny) ⟨dy, upd_same⟩
  | loc i =>
    refine ⟨_, rfl, x, _, 0, .str "local", rfl, rfl, SqT.of hx, rfl, rfl, _, rfl, iteF ⟨_, rfl, x, _, 0, .str "local", rfl, rfl, SqT.of hx, rfl, rfl, _, rfl, iteF ⟨_, rfl, x, _, 0, .str "local", rfl, rfl, SqT.of hx, rfl, rfl, _, rfl, iteT ?_⟩⟩⟩
    exact ⟨_, rfl, x, _, 1, .int i, rfl, rfl, SqT.of hx, rfl, fun y dy ny ndy _ => ⟨y, dy, _, rfl, upd_same, fun J k e => ⟨rfl, q J y (made_same ny ndy k) ⟨dy, e⟩⟩⟩⟩
  | pair sg =>
    obtain ⟨y0, a0, f0⟩ := two 0 (by rw [hl]; show 0 < 2; decide)
    obtain ⟨y1, a1, f1⟩ := two 1 (by rw [hl]; show 1 < 2; decide)
    refine ⟨_, rfl, x, _, 0, .str "pair", rfl, rfl, SqT.of hx, rfl, rfl, _, rfl, iteF ⟨_, rfl, x, _, 0, .str "pair", rfl, rfl, SqT.of hx, rfl, rfl, _, rfl, iteF ⟨_, rfl, x, _, 0, .str "pair", rfl, rfl, SqT.of hx, rfl, rfl, _, rfl, iteF ⟨_, rfl, x, _, 0, .str "pair", rfl, rfl, SqT.of hx, rfl, rfl, _, rfl, iteT ?_⟩⟩⟩⟩
    refine ⟨_, rfl, x, _, 1, .str sg, rfl, rfl, SqT.of hx, rfl, _, rfl, pa, _, _, _, rfl, rfl, hp, atI_nat a0, _, rfl, pa, _, _, _, rfl, rfl, hp, atI_nat a1, fun y dy ny ndy _ => ⟨y, dy, _, _, _, rfl, upd_same, fun J k e => ⟨rfl, q J y (made_same ny ndy k) ?_⟩⟩⟩
    exact ⟨dy, y0, y1, e, f0.same (made_same ny ndy k), f1.same (made_same ny ndy k)⟩
  | cho =>
    obtain ⟨y0, a0, f0⟩ := two 0 (by rw [hl]; show 0 < 3; decide)
    obtain ⟨y1, a1, f1⟩ := two 1 (by rw [hl]; show 1 < 3; decide)
    obtain ⟨y2, a2, f2⟩ := two 2 (by rw [hl]; show 2 < 3; decide)
    refine ⟨_, rfl, x, _, 0, .str "choice", rfl, rfl, SqT.of hx, rfl, rfl, _, rfl, iteF ⟨_, rfl, x, _, 0, .str "choice", rfl, rfl, SqT.of hx, rfl, rfl, _, rfl, iteF ⟨_, rfl, x, _, 0, .str "choice", rfl, rfl, SqT.of hx, rfl, rfl, _, rfl, iteF ⟨_, rfl, x, _, 0, .str "choice", rfl, rfl, SqT.of hx, rfl, rfl, _, rfl, iteF ⟨_, rfl, x, _, 0, .str "choice", rfl, rfl, SqT.of hx, rfl, rfl, _, rfl, iteT ?_⟩⟩⟩⟩⟩
    refine ⟨_, rfl, pa, _, _, _, rfl, rfl, hp, atI_nat a0, _, rfl, pa, _, _, _, rfl, rfl, hp, atI_nat a1, _, rfl, pa, _, _, _, rfl, rfl, hp, atI_nat a2, fun y dy ny ndy _ => ⟨y, dy, _, _, _, rfl, upd_same, fun J k e => ⟨rfl, q J y (made_same ny ndy k) ?_⟩⟩⟩
    exact ⟨dy, y0, y1, y2, e, f0.same (made_same ny ndy k), f1.same (made_same ny ndy k), f2.same (made_same ny ndy k)⟩
  | call j =>
    refine ⟨_, rfl, x, _, 0, .str "call", rfl, rfl, SqT.of hx, rfl, rfl, _, rfl, iteF ⟨_, rfl, x, _, 0, .str "call", rfl, rfl, SqT.of hx, rfl, rfl, _, rfl, iteF ⟨_, rfl, x, _, 0, .str "call", rfl, rfl, SqT.of hx, rfl, rfl, _, rfl, iteF ⟨_, rfl, x, _, 0, .str "call", rfl, rfl, SqT.of hx, rfl, rfl, _, rfl, iteF ⟨_, rfl, x, _, 0, .str "call", rfl, rfl, SqT.of hx, rfl, rfl, _, rfl, iteF ⟨_, rfl, x, _, 0, .str "call", rfl, rfl, SqT.of hx, rfl, rfl, _, rfl, iteT ?_⟩⟩⟩⟩⟩⟩
    refine ⟨_, rfl, x, _, 1, .int j, rfl, rfl, SqT.of hx, rfl, _, rfl, fun y dy ny ndy _ => ⟨y, dy, pa, _, _, rfl, upd_same, sql_same hp (same_upd (same_upd (Same.refl _) ndy) ny), fun J l nl k el e => ⟨rfl, q J y (made_same ny ndy k) ?_⟩⟩⟩
    exact ⟨dy, l, Ps.map Prod.snd, e, by rw [List.map_map]; exact el, (formsAt_of hA).same (made_same ny ndy k)⟩
  | cell r =>
    refine ⟨_, rfl, x, _, 0, .str "cell", rfl, rfl, SqT.of hx, rfl, rfl, _, rfl, iteF ⟨_, rfl, x, _, 0, .str "cell", rfl, rfl, SqT.of hx, rfl, rfl, _, rfl, iteF ⟨_, rfl, x, _, 0, .str "cell", rfl, rfl, SqT.of hx, rfl, rfl, _, rfl, iteF ⟨_, rfl, x, _, 0, .str "cell", rfl, rfl, SqT.of hx, rfl, rfl, _, rfl, iteF ⟨_, rfl, x, _, 0, .str "cell", rfl, rfl, SqT.of hx, rfl, rfl, _, rfl, iteF ⟨_, rfl, x, _, 0, .str "cell", rfl, rfl, SqT.of hx, rfl, rfl, _, rfl, iteF ⟨_, rfl, x, _, 0, .str "cell", rfl, rfl, SqT.of hx, rfl, rfl, _, rfl, iteT ?_⟩⟩⟩⟩⟩⟩⟩
    exact ⟨_, rfl, x, _, 1, .int r, rfl, rfl, SqT.of hx, rfl, fun y dy ny ndy _ => ⟨y, dy, _, rfl, upd_same, fun J k e => ⟨rfl, q J y (made_same ny ndy k) ⟨dy, e⟩⟩⟩⟩
  | shi r b o =>
    refine ⟨_, rfl, x, _, 0, .str "shifted", rfl, rfl, SqT.of hx, rfl, rfl, _, rfl, iteF ⟨_, rfl, x, _, 0, .str "shifted", rfl, rfl, SqT.of hx, rfl, rfl, _, rfl, iteF ⟨_, rfl, x, _, 0, .str "shifted", rfl, rfl, SqT.of hx, rfl, rfl, _, rfl, iteF ⟨_, rfl, x, _, 0, .str "shifted", rfl, rfl, SqT.of hx, rfl, rfl, _, rfl, iteF ⟨_, rfl, x, _, 0, .str "shifted", rfl, rfl, SqT.of hx, rfl, rfl, _, rfl, iteF ⟨_, rfl, x, _, 0, .str "shifted", rfl, rfl, SqT.of hx, rfl, rfl, _, rfl, iteF ⟨_, rfl, x, _, 0, .str "shifted", rfl, rfl, SqT.of hx, rfl, rfl, _, rfl, iteF ⟨_, rfl, x, _, 0, .str "shifted", rfl, rfl, SqT.of hx, rfl, rfl, _, rfl, iteT ?_⟩⟩⟩⟩⟩⟩⟩⟩
    exact ⟨_, rfl, x, _, 1, .int r, rfl, rfl, SqT.of hx, rfl, _, rfl, x, _, 2, .int b, rfl, rfl, SqT.of hx, rfl, _, rfl, x, _, 3, .int o, rfl, rfl, SqT.of hx, rfl, fun y dy ny ndy _ => ⟨y, dy, _, _, _, rfl, upd_same, fun J k e => ⟨rfl, q J y (made_same ny ndy k) ⟨dy, e⟩⟩⟩⟩
  | at' r =>
    obtain ⟨y0, a0, f0⟩ := two 0 (by rw [hl]; show 0 < 1; decide)
    refine ⟨_, rfl, x, _, 0, .str "at", rfl, rfl, SqT.of hx, rfl, rfl, _, rfl, iteF ⟨_, rfl, x, _, 0, .str "at", rfl, rfl, SqT.of hx, rfl, rfl, _, rfl, iteF ⟨_, rfl, x, _, 0, .str "at", rfl, rfl, SqT.of hx, rfl, rfl, _, rfl, iteF ⟨_, rfl, x, _, 0, .str "at", rfl, rfl, SqT.of hx, rfl, rfl, _, rfl, iteF ⟨_, rfl, x, _, 0, .str "at", rfl, rfl, SqT.of hx, rfl, rfl, _, rfl, iteF ⟨_, rfl, x, _, 0, .str "at", rfl, rfl, SqT.of hx, rfl, rfl, _, rfl, iteF ⟨_, rfl, x, _, 0, .str "at", rfl, rfl, SqT.of hx, rfl, rfl, _, rfl, iteF ⟨_, rfl, x, _, 0, .str "at", rfl, rfl, SqT.of hx, rfl, rfl, _, rfl, iteF ?_⟩⟩⟩⟩⟩⟩⟩⟩
    exact ⟨_, rfl, x, _, 1, .int r, rfl, rfl, SqT.of hx, rfl, _, rfl, pa, _, _, _, rfl, rfl, hp, atI_nat a0, fun y dy ny ndy _ => ⟨y, dy, _, _, rfl, upd_same, fun J k e => ⟨rfl, q J y (made_same ny ndy k) ⟨dy, y0, e, f0.same (made_same ny ndy k)⟩⟩⟩⟩
end
end K13
namespace K13
open PySem L2 FM PO
theorem sign_at {i : Nat} (h : i < 12) : (signs.map V.str)[i]? = some (.str (signs.getD i "")) ∧ signs.getD i "" ∈ signs := by
  refine ⟨?_, ?_⟩
  · rw [List.getElem?_map, List.getD_eq_getElem?_getD, List.getElem?_eq_getElem (show i < signs.length from h)]; rfl
  · rw [List.getD_eq_getElem?_getD, List.getElem?_eq_getElem (show i < signs.length from h)]; exact List.getElem_mem _
section
variable {P : Program} {w : World} {K : PySem.W.Frag} {mg : Str → Option Value} {base : Heap}
theorem LFuns.len {H : Hp} {fa : Addr} {ls : List FnL} (h : LFuns K H fa ls) : ∃ xs : List V, SqL K H fa xs ∧ xs.length = ls.length := by
  obtain ⟨Ts, a, b, _⟩ := h.ex
  exact ⟨_, a, by rw [b, List.length_map, List.length_map]⟩
def spItems (K : PySem.W.Frag) : Sp := fun vs H Q _ => ∃ (cc : Int) (wa la : Addr) (wd lens : List Int) (m : Nat) (fa : Addr) (ls : List FnL), vs = [.int cc, .ref wa, .ref la, .int (m : Int), .ref fa] ∧ SqL K H wa (wd.map V.int) ∧ SqL K H la (lens.map V.int) ∧ (∀ v ∈ lens, Kin v) ∧ LFuns K H fa ls ∧
  ∀ (H' : Hp) (l : Addr) (Ps : List (Item × Addr)), Hd H [(l, .lst (Ps.map fun p => V.ref p.2))] H' → (∀ p ∈ Ps, H' p.2 = some (.tup p.1.v)) → (∀ p ∈ Ps, ItG wd lens.length m ls.length p.1) → Ps.length ≤ 3 → Q (.ref l) H'
theorem ok_items (d : DefIn K mg "_law_items_by" s_l_items_by ["_law_cell", "_law_wide", "_law_lengths", "_law_hands", "_law_functions"]) (hlen : mg "len" = none) (KB : Ok P w K mg base (CXe P w base) 1 "_law_kept_by" ["_law_cell"] spKB) : Ok P w K mg base CX0 2 "_law_items_by" ["_law_cell", "_law_wide", "_law_lengths", "_law_hands", "_law_functions"] (spItems K) := by
  obtain ⟨g, fd, m, F, b⟩ := d
  refine ⟨g, fd, m, F.kp, b, F.okB sc_l_items_by (fun vs H Q E ⟨_, _, _, _, _, _, _, _, e, _⟩ => by rw [e]; rfl) fun cdv A outer s H vs Q E hr h => ?_⟩
  obtain ⟨cc, wa, la, wd, lens, m', fa, ls, rfl, hwa, hla, hlk, hf, q⟩ := h
  have nd := sc_l_items_by.nd
  have hr1 := hr
  refine ⟨_, (pb_cons (pw_ks (i := 5) nd rfl (Or.inl rfl) rfl)
      (pb_cons (PW1.mk (ps_set (i := 6) nd rfl (Or.inl rfl) (pe_op op_mod (pv 0) pe_int)))
      (pb_cons (PW1.mk (ps_set (i := 7) nd rfl (Or.inl rfl) (pe_op op_fdiv (pv 0) pe_int)))
      (pb_cons (PW1.mk (ps_if (pt_cmpR op_lt (pv 6) pe_int (nomark _)) (pss_one (ps_ret (pe_lst (pa_cons (pe_tup (pa_cons pe_str (pa_cons (pe_ifExp (pt_cmpR op_eq (pv 6) pe_int (nomark _)) (pe_op op_sub (pe_op op_mod (pv 7) pe_int) pe_int) (pe_ok KB hr1 (by rfl) passF (pa_cons (pv 7) pa_nil))) pa_nil))) pa_nil)))) pss_nil))
      (pb_cons (PW1.mk (ps_if (pt_cmpR op_eq (pv 6) pe_int (nomark _)) (pss_one (ps_ret (pe_lst (pa_cons (pe_tup (pa_cons pe_str pa_nil)) pa_nil)))) pss_nil))
      (pb_cons (PW1.mk (ps_mid (ps_if (pw_and (pt_cmpR op_lt (pv 6) pe_int (nomark _)) (pw_and1 (pt_cmpR op_gt (pe_callB call_len_seq (by rfl) hlen PySem.boot_len (pa_cons (pv 1) pa_nil)) pe_int (nomark _)))).pt (pss_one (ps_ret (pe_lst (pa_cons (pe_tup (pa_cons pe_str (pa_cons (pe_ix ix_list (pv 1) (pe_op op_mod (pv 7) (pe_callB call_len_seq (by rfl) hlen PySem.boot_len (pa_cons (pv 1) pa_nil))) (fun _ _ => rfl)) pa_nil))) pa_nil)))) pss_nil)))
      (pb_cons (PW1.mk (ps_mid (ps_if (pw_and (pt_cmpR op_eq (pv 6) pe_int (nomark _)) (pw_and1 (pt_cmpR op_gt (pe_callB call_len_seq (by rfl) hlen PySem.boot_len (pa_cons (pv 2) pa_nil)) pe_int (nomark _)))).pt (pss_one (ps_ret (pe_lst (pa_cons (pe_tup (pa_cons pe_str (pa_cons (pe_op op_mod (pv 7) (pe_callB call_len_seq (by rfl) hlen PySem.boot_len (pa_cons (pv 2) pa_nil))) (pa_cons (pe_op op_sub (pe_op op_mod (pe_op op_fdiv (pv 7) pe_int) pe_int) pe_int) (pa_cons (pe_ok KB hr1 (by rfl) passF (pa_cons (pe_op op_fdiv (pv 7) pe_int) pa_nil)) pa_nil))))) pa_nil)))) pss_nil)))
      (pb_cons (PW1.mk (ps_mid (ps_if (pw_and (pt_cmpR op_eq (pv 6) pe_int (nomark _)) (pw_and1 (pt_cmpR op_gt (pe_callB call_len_seq (by rfl) hlen PySem.boot_len (pa_cons (pv 2) pa_nil)) pe_int (nomark _)))).pt (pss_cons (ps_set (i := 8) nd rfl (Or.inl rfl) (pe_op op_mod (pv 7) (pe_callB call_len_seq (by rfl) hlen PySem.boot_len (pa_cons (pv 2) pa_nil))))
      (pss_cons (ps_if (pt_cmpR op_eq (pe_op op_mod (pe_op op_fdiv (pv 7) pe_int) pe_int) pe_int (nomark _)) (pss_one (ps_ret (pe_lst (pa_cons (pe_tup (pa_cons pe_str (pa_cons (pv 8) pa_nil))) pa_nil)))) pss_nil)
      (pss_one (ps_ret (pe_lst (pa_cons (pe_tup (pa_cons pe_str (pa_cons (pe_ix ix_list (pv 2) (pv 8) (fun _ _ => rfl)) pa_nil))) (pa_cons (pe_tup (pa_cons pe_str (pa_cons pe_str pa_nil))) (pa_cons (pe_tup (pa_cons pe_str (pa_cons (pv 8) pa_nil))) pa_nil)))))))) pss_nil)))
      (pb_cons (PW1.mk (ps_if (pt_cmpR op_eq (pv 6) pe_int (nomark _)) (pss_one (ps_ret (pe_lst (pa_cons (pe_tup (pa_cons pe_str pa_nil)) pa_nil)))) pss_nil))
      (pb_cons (PW1.mk (ps_mid (ps_if (pw_and (pt_cmpR op_eq (pv 6) pe_int (nomark _)) (pw_and1 (pt_cmpR op_gt (pe_callB call_len_seq (by rfl) hlen PySem.boot_len (pa_cons (pv 4) pa_nil)) pe_int (nomark _)))).pt (pss_one (ps_ret (pe_lst (pa_cons (pe_tup (pa_cons pe_str (pa_cons (pe_op op_mod (pv 7) (pe_callB call_len_seq (by rfl) hlen PySem.boot_len (pa_cons (pv 4) pa_nil))) pa_nil))) pa_nil)))) pss_nil)))
      (pb_cons (PW1.mk (ps_mid (ps_if (pw_and (pt_cmpR op_lt (pv 6) pe_int (nomark _)) (pw_and1 (pt_cmpR op_gt (pv 3) pe_int (nomark _)))).pt (pss_one (ps_ret (pe_lst (pa_cons (pe_tup (pa_cons pe_str (pa_cons (pe_op op_mod (pv 7) (pv 3)) pa_nil))) pa_nil)))) pss_nil)))
      (pb_one (PW1.mk (ps_ret (pe_lst (pa_cons (pe_tup (pa_cons pe_str (pa_cons (pe_ix ix_list (pv 5) (pe_op op_mod (pv 7) pe_int) (fun _ _ => rfl)) pa_nil))) pa_nil)))))))))))))))), ?_⟩
  refine ⟨(by show 12 ≤ sizeLine; decide), fun sg nsg => ?_⟩
  have s0 : Same H (upd H sg (.lst (signs.map V.str))) := same_upd (Same.refl H) nsg
  have esg : upd H sg (.lst (signs.map V.str)) sg = some (.lst (signs.map V.str)) := upd_same
  revert s0 esg
  show Same H (upd H sg (.lst [.str "+", .str "-", .str "*", .str "/", .str "rest", .str "least", .str "most", .str "<", .str "=", .str "&", .str "|", .str "^"])) → upd H sg (.lst [.str "+", .str "-", .str "*", .str "/", .str "rest", .str "least", .str "most", .str "<", .str "=", .str "&", .str "|", .str "^"]) sg = some (.lst (signs.map V.str)) → _
  generalize upd H sg (.lst [.str "+", .str "-", .str "*", .str "/", .str "rest", .str "least", .str "most", .str "<", .str "=", .str "&", .str "|", .str "^"]) = H1
  intro s0 esg
  have one : ∀ (H2 : Hp) (it : Item), Same H H2 → ItG wd lens.length m' ls.length it → ∀ (t : Addr), H2 t = none → ∀ l, upd H2 t (.tup it.v) l = none → Q (.ref l) (upd (upd H2 t (.tup it.v)) l (.lst [.ref t])) := fun H2 it s2 hg t nt l nl => by
    have h := ((Hd.base (B := H2)).new (o := .tup it.v) nt).new (o := .lst [.ref t]) nl
    exact q _ l [(it, t)] ((h.sub (List.Sublist.cons₂ _ (List.nil_sublist _))).weak s2) (fun p hp => by cases List.mem_singleton.mp hp; exact h.get 1 rfl) (fun p hp => by cases List.mem_singleton.mp hp; exact hg) (by show 1 ≤ 3; decide)
  have hwa := sql_same hwa s0
  have hla := sql_same hla s0
  have md : ∀ (z n : Int), 0 < n → 0 ≤ z % n ∧ z % n < n := fun z n h => ⟨Int.emod_nonneg _ (by omega), Int.emod_lt_of_pos _ h⟩
  refine ⟨_, rfl, _, _, rfl, rfl, (by show (0 : Int) < 12; decide), ?_⟩
  refine ⟨_, rfl, _, _, rfl, rfl, ⟨by decide, by decide⟩, ?_⟩
  refine ⟨_, rfl, _, _, rfl, rfl, _, rfl, ?_⟩
  refine ite2 (fun z => ?_) (fun z => ?_)
  · refine ⟨_, rfl, rfl, _, rfl, ?_⟩
    refine ite2 (fun z => ?_) (fun z => ?_)
    · refine ⟨_, rfl, _, _, rfl, rfl, (by show (0 : Int) < 7; decide), _, _, rfl, rfl, (by show 2 ≤ sizeLine; decide), fun t nt => ⟨(by show 1 ≤ sizeLine; decide), fun l nl => ?_⟩⟩
      exact one H1 (.num (cc / 12 % 7 - 3)) s0 (by show Kin _; constructor <;> omega) t nt l nl
    · refine ⟨_, rfl, _, rfl, fun H2 s2 => ⟨(by show 2 ≤ sizeLine; decide), fun t nt => ⟨(by show 1 ≤ sizeLine; decide), fun l nl => ?_⟩⟩⟩
      exact one H2 (.num (keptBy (cc / 12))) (s0.trans s2) (keptBy_in _) t nt l nl
  refine ⟨_, rfl, rfl, _, rfl, ?_⟩
  refine ite2 (fun z => ?_) (fun z => ?_)
  · refine ⟨(by show 1 ≤ sizeLine; decide), fun t nt => ⟨(by show 1 ≤ sizeLine; decide), fun l nl => ?_⟩⟩
    exact one H1 .here s0 trivial t nt l nl
  refine ⟨fun σ' H' => σ' = [some (.int cc), some (.ref wa), some (.ref la), some (.int (m' : Int)), some (.ref fa), some (.ref sg), some (.int (cc % 12)), some (.int (cc / 12)), none] ∧ H' = H1, ?_, ?_⟩
  · refine ⟨_, rfl, _, _, rfl, rfl, _, rfl, ?_⟩
    refine ite2 (fun z => ?_) (fun _ => iteF ⟨rfl, rfl⟩)
    refine ⟨_, rfl, wa, _, rfl, .inl hwa, _, _, rfl, rfl, _, rfl, ?_⟩
    rw [List.length_map]
    refine ite2 (fun z => ?_) (fun _ => ⟨rfl, rfl⟩)
    have z : (wd.length : Int) > 0 := by simpa using z
    obtain ⟨i0, i1⟩ := md (cc / 12) wd.length z
    refine ⟨_, rfl, _, rfl, _, rfl, wa, _, rfl, .inl hwa, _, _, rfl, rfl, (by rw [List.length_map]; exact z), wa, _, _, _, rfl, rfl, hwa, at_int (cc / 12 % (wd.length : Int)).toNat (by omega) (by rw [List.length_map]; omega), (by show 2 ≤ sizeLine; decide), fun t nt => ⟨(by show 1 ≤ sizeLine; decide), fun l nl => ?_⟩⟩
    exact one H1 (.cell (wd.getD (cc / 12 % (wd.length : Int)).toNat 0)) s0 (L2.getD_mem (by omega)) t nt l nl
  rintro σ' H' ⟨rfl, rfl⟩
  refine ⟨fun σ' H'' => σ' = [some (.int cc), some (.ref wa), some (.ref la), some (.int (m' : Int)), some (.ref fa), some (.ref sg), some (.int (cc % 12)), some (.int (cc / 12)), none] ∧ H'' = H', ?_, ?_⟩
  · refine ⟨_, rfl, rfl, _, rfl, ?_⟩
    refine ite2 (fun z => ?_) (fun _ => iteF ⟨rfl, rfl⟩)
    refine ⟨_, rfl, la, _, rfl, .inl hla, _, _, rfl, rfl, _, rfl, ?_⟩
    rw [List.length_map]
    refine ite2 (fun z => ?_) (fun _ => ⟨rfl, rfl⟩)
    have z : (lens.length : Int) > 0 := by simpa using z
    obtain ⟨i0, i1⟩ := md (cc / 12) lens.length z
    refine ⟨_, rfl, _, rfl, la, _, rfl, .inl hla, _, _, rfl, rfl, (by rw [List.length_map]; exact z), _, rfl, _, _, rfl, rfl, ⟨by decide, by decide⟩, _, _, rfl, rfl, (by show (0 : Int) < 7; decide), _, _, rfl, rfl, _, rfl, _, _, rfl, rfl, ⟨by decide, by decide⟩, _, rfl, fun H2 s2 => ⟨(by show 4 ≤ sizeLine; decide), fun t nt => ⟨(by show 1 ≤ sizeLine; decide), fun l nl => ?_⟩⟩⟩
    rw [List.length_map] at nl ⊢
    exact one H2 (.shi (cc / 12 % (lens.length : Int)) (cc / 12 / 7 % 7 - 3) (keptBy (cc / 12 / 49))) (s0.trans s2) ⟨i0, by omega, keptBy_in _⟩ t nt l nl
  rintro σ' H'' ⟨rfl, rfl⟩
  refine ⟨fun σ' H' => ∃ u8, σ' = [some (.int cc), some (.ref wa), some (.ref la), some (.int (m' : Int)), some (.ref fa), some (.ref sg), some (.int (cc % 12)), some (.int (cc / 12)), u8] ∧ H' = H'', ?_, ?_⟩
  · refine ⟨_, rfl, rfl, _, rfl, ?_⟩
    refine ite2 (fun z => ?_) (fun _ => iteF ⟨_, rfl, rfl⟩)
    refine ⟨_, rfl, la, _, rfl, .inl hla, _, _, rfl, rfl, _, rfl, ?_⟩
    rw [List.length_map]
    refine ite2 (fun z => ?_) (fun _ => ⟨_, rfl, rfl⟩)
    have z : (lens.length : Int) > 0 := by simpa using z
    obtain ⟨i0, i1⟩ := md (cc / 12) lens.length z
    refine ⟨_, rfl, _, rfl, la, _, rfl, .inl hla, _, _, rfl, rfl, (by rw [List.length_map]; exact z), ?_⟩
    rw [List.length_map]
    show gName 8 (.int (cc / 12 % (lens.length : Int))) _ _ _
    generalize cc / 12 % (lens.length : Int) = row at i0 i1 ⊢
    have rt : row.toNat < lens.length := by omega
    refine ⟨_, rfl, _, _, rfl, rfl, ⟨by decide, by decide⟩, _, _, rfl, rfl, (by show (0 : Int) < 4; decide), rfl, _, rfl, ?_⟩
    refine ite2 (fun z => ?_) (fun z => ?_)
    · refine ⟨_, rfl, (by show 2 ≤ sizeLine; decide), fun t nt => ⟨(by show 1 ≤ sizeLine; decide), fun l nl => ?_⟩⟩
      exact one H'' (.at' row) s0 ⟨i0, rt⟩ t nt l nl
    · refine ⟨_, rfl, _, rfl, la, _, _, _, rfl, rfl, hla, at_int row.toNat rt (by omega), (by show 2 ≤ sizeLine; decide), fun t1 n1 => ?_⟩
      have h := (Hd.base (B := H'')).new (o := .tup (Item.num (lens.getD row.toNat 0)).v) n1
      refine ⟨(by show 2 ≤ sizeLine; decide), fun t2 n2 => ?_⟩
      have h := h.new (o := .tup (Item.pair "rest").v) n2
      refine ⟨_, rfl, (by show 2 ≤ sizeLine; decide), fun t3 n3 => ?_⟩
      have h := h.new (o := .tup (Item.at' row).v) n3
      refine ⟨(by show 3 ≤ sizeLine; decide), fun l nl => ?_⟩
      have h := h.new (o := .lst [.ref t1, .ref t2, .ref t3]) nl
      refine q _ l [(.num (lens.getD row.toNat 0), t1), (.pair "rest", t2), (.at' row, t3)] ((h.sub (List.Sublist.cons₂ _ (List.nil_sublist _))).weak s0) (fun p hp => ?_) (fun p hp => ?_) (Nat.le_refl _)
      · simp only [List.mem_cons, List.not_mem_nil, or_false] at hp
        rcases hp with rfl | rfl | rfl
        · exact h.get 3 rfl
        · exact h.get 2 rfl
        · exact h.get 1 rfl
      · simp only [List.mem_cons, List.not_mem_nil, or_false] at hp
        rcases hp with rfl | rfl | rfl
        · exact hlk _ (L2.getD_mem rt)
        · show ("rest" : Str) ∈ FM.signs
          decide
        · exact ⟨i0, rt⟩
  rintro σ' H' ⟨u8, rfl, rfl⟩
  refine ⟨_, rfl, rfl, _, rfl, ?_⟩
  refine ite2 (fun z => ?_) (fun z => ?_)
  · refine ⟨(by show 1 ≤ sizeLine; decide), fun t nt => ⟨(by show 1 ≤ sizeLine; decide), fun l nl => ?_⟩⟩
    exact one H' .cho s0 trivial t nt l nl
  obtain ⟨xs, hxs, xl⟩ := (hf.same s0).len
  refine ⟨fun σ' H'' => σ' = [some (.int cc), some (.ref wa), some (.ref la), some (.int (m' : Int)), some (.ref fa), some (.ref sg), some (.int (cc % 12)), some (.int (cc / 12)), u8] ∧ H'' = H', ?_, ?_⟩
  · refine ⟨_, rfl, rfl, _, rfl, ?_⟩
    refine ite2 (fun z => ?_) (fun _ => iteF ⟨rfl, rfl⟩)
    refine ⟨_, rfl, fa, _, rfl, .inl hxs, _, _, rfl, rfl, _, rfl, ?_⟩
    refine ite2 (fun z => ?_) (fun _ => ⟨rfl, rfl⟩)
    have z : (xs.length : Int) > 0 := by simpa using z
    obtain ⟨i0, i1⟩ := md (cc / 12) xs.length z
    refine ⟨_, rfl, _, rfl, fa, _, rfl, .inl hxs, _, _, rfl, rfl, z, (by show 2 ≤ sizeLine; decide), fun t nt => ⟨(by show 1 ≤ sizeLine; decide), fun l nl => ?_⟩⟩
    exact one H' (.call (cc / 12 % (xs.length : Int))) s0 ⟨i0, by omega⟩ t nt l nl
  rintro σ' H'' ⟨rfl, rfl⟩
  refine ⟨fun σ' H' => σ' = [some (.int cc), some (.ref wa), some (.ref la), some (.int (m' : Int)), some (.ref fa), some (.ref sg), some (.int (cc % 12)), some (.int (cc / 12)), u8] ∧ H' = H'', ?_, ?_⟩
  · refine ⟨_, rfl, _, _, rfl, rfl, _, rfl, ?_⟩
    refine ite2 (fun z => ?_) (fun _ => iteF ⟨rfl, rfl⟩)
    refine ⟨_, rfl, _, _, rfl, rfl, _, rfl, ?_⟩
    refine ite2 (fun z => ?_) (fun _ => ⟨rfl, rfl⟩)
    have z : (m' : Int) > 0 := by simpa using z
    obtain ⟨i0, i1⟩ := md (cc / 12) m' z
    refine ⟨_, rfl, _, rfl, _, _, rfl, rfl, z, (by show 2 ≤ sizeLine; decide), fun t nt => ⟨(by show 1 ≤ sizeLine; decide), fun l nl => ?_⟩⟩
    exact one H'' (.loc (cc / 12 % (m' : Int))) s0 ⟨i0, by omega⟩ t nt l nl
  rintro σ' H' ⟨rfl, rfl⟩
  obtain ⟨j, hj, ej⟩ : ∃ j : Nat, j < 12 ∧ cc / 12 % 12 = j := ⟨(cc / 12 % 12).toNat, by omega, by omega⟩
  obtain ⟨a1, a2⟩ := sign_at hj
  refine ⟨_, rfl, _, rfl, _, _, rfl, rfl, (by show (0 : Int) < 12; decide), sg, _, _, .str (signs.getD j ""), rfl, rfl, SqL.of esg, ?_, (by show 2 ≤ sizeLine; decide), fun t nt => ⟨(by show 1 ≤ sizeLine; decide), fun l nl => ?_⟩⟩
  · show atI _ (cc / 12 % 12) = _
    rw [ej]; exact atI_nat a1
  · exact one H' (.pair (signs.getD j "")) s0 a2 t nt l nl
def spFormOf (K : PySem.W.Frag) (c : F2.Cs) : Sp := fun vs H Q _ => ∃ (pa fa : Addr) (Ps : List (Item × Addr)) (ls : List FnL) (wd : List Int) (nr m n h : Nat), vs = [.ref pa, .ref fa] ∧ SqL K H pa (Ps.map fun p => V.ref p.2) ∧ (∀ p ∈ Ps, H p.2 = some (.tup p.1.v)) ∧ LFuns K H fa ls ∧ n ≤ ls.length ∧ (∀ p ∈ Ps, ItG wd nr m n p.1) ∧ Ps.length ≤ 200 ∧ Vl (hsL ls) (Ps.map Prod.fst) 0 = some h ∧ 1 ≤ h ∧
  ∀ (H' : Hp) (y : Addr), Same H H' → F2.FormAt c H' (formOf (hsL ls) (Ps.map Prod.fst)) y → Q (.ref y) H'
theorem ok_formOf {c : F2.Cs} (d : DefIn K mg "_law_form_of" s_l_form_of ["_law_post", "_law_functions"]) (hlen : mg "len" = none) (TK : Ok P w K mg base (CXe P w base) 1 "_law_takes" ["_law_item", "_law_functions"] (spTakes K)) (FB : Ok P w K mg base (CXe P w base) 3 "_law_form_by" ["_law_item", "_law_parts"] (spFormBy K c)) : Ok P w K mg base CX0 4 "_law_form_of" ["_law_post", "_law_functions"] (spFormOf K c) := by
  obtain ⟨g, fd, m, F, b⟩ := d
  refine ⟨g, fd, m, F.kp, b, F.ok sc_l_form_of (fun vs H Q E ⟨_, _, _, _, _, _, _, _, _, e, _⟩ => by rw [e]; rfl) fun cdv A outer s H vs Q E hr h => ?_⟩
  obtain ⟨pa, fa, Ps, ls, wd, nr, m', n', hh, rfl, hp, hI, hf, hn, hG, hPl, hV, h1, q⟩ := h
  have nd := sc_l_form_of.nd
  have hr3 := hr
  have hr1 : Room 1 _ := hr.mono (by decide)
  have SL : (600 : Nat) < sizeLine := by decide
  refine ⟨_, (pss_cons (ps_set (i := 2) nd rfl (Or.inl rfl) (pe_lst pa_nil))
      (pss_cons (ps_for PassesOwn.never rfl (pi_list (pv 0)) (pg_name (i := 3) nd rfl (Or.inl rfl)) (pss_cons (ps_set (i := 4) nd rfl (Or.inl rfl) (pe_ok TK hr1 (by rfl) passF (pa_cons (pv 3) (pa_cons (pv 1) pa_nil))))
      (pss_cons (ps_set (i := 5) nd rfl (Or.inl rfl) (pe_slice sl_list (pv 2) (po_some (pe_op op_sub (pe_callB call_len_seq (by rfl) hlen PySem.boot_len (pa_cons (pv 2) pa_nil)) (pv 4))) po_none))
      (pss_cons (ps_set (i := 2) nd rfl (Or.inl rfl) (pe_slice sl_list (pv 2) po_none (po_some (pe_op op_sub (pe_callB call_len_seq (by rfl) hlen PySem.boot_len (pa_cons (pv 2) pa_nil)) (pv 4)))))
      (pss_one (ps_expr (pe_bm PySem.F.plainAttrs_list PySem.F.slot_list_append PySem.F.type_list_append mt_append (pv 2) (pa_cons (pe_hide (pe_ok FB hr3 (by rfl) passF (pa_cons (pv 3) (pa_cons (pv 5) pa_nil)))) pa_nil))))))))
      (pss_one (ps_ret (pe_ix ix_list (pv 2) pe_int (fun _ _ => rfl)))))), ?_⟩
  refine ⟨(by show 0 ≤ sizeLine; decide), fun pl npl => ?_⟩
  have h0 : Hd H [(pl, .lst (([] : List (F2.Fm × Addr)).map fun p => V.ref p.2))] (upd H pl (.lst [])) := Hd.base.new npl
  refine ⟨_, rfl, pa, rfl, ⟨_, h0.sql hp⟩, ?_⟩
  refine for_list (K := K) (a := pa) (xs := Ps.map fun p => V.ref p.2) (fun i σ J => ∃ (B : Hp) (pl : Addr) (Qs : List (F2.Fm × Addr)) (u3 u4 u5 : Option V), σ = [some (.ref pa), some (.ref fa), some (.ref pl), u3, u4, u5] ∧ Same H B ∧ Hd B [(pl, .lst (Qs.map fun p => V.ref p.2))] J ∧ (∀ p ∈ Qs, F2.FormAt c B p.1 p.2) ∧ Qs.length ≤ i ∧ Vl (hsL ls) ((Ps.drop i).map Prod.fst) Qs.length = some hh ∧ runF (hsL ls) (Ps.map Prod.fst) [] = runF (hsL ls) ((Ps.drop i).map Prod.fst) (Qs.map Prod.fst)) ⟨H, pl, [], none, none, none, rfl, Same.refl _, h0, (fun p hp => nomatch hp), Nat.le_refl _, hV, rfl⟩ (fun i σ J _ ⟨_, _, _, _, _, _, _, sB, h, _⟩ => sql_same hp (sB.trans h.sm)) ?_ ?_
  · clear h0
    rintro i y σ J hi ⟨B, pl, Qs, u3, u4, u5, rfl, sB, h, hA, hl, hV, er⟩
    obtain ⟨p, hp', rfl⟩ : ∃ p, Ps[i]? = some p ∧ y = V.ref p.2 := by
      rw [List.getElem?_map] at hi
      cases ez : Ps[i]? with
      | none => rw [ez] at hi; cases hi
      | some z => rw [ez] at hi; exact ⟨z, rfl, by injection hi with hi; exact hi.symm⟩
    have il := (List.getElem?_eq_some_iff.mp hp').1
    have mp := List.mem_of_getElem? hp'
    have ed : Ps.drop i = p :: Ps.drop (i + 1) := by
      rw [List.drop_eq_getElem_cons il, (List.getElem?_eq_some_iff.mp hp').2]
    rw [ed, List.map_cons] at er hV
    obtain ⟨it, x⟩ := p
    have gi := hG _ mp
    have sJ := sB.trans h.sm
    have hx : J x = some (.tup it.v) := sJ _ _ (hI _ mp)
    have cj : ∀ j, it = .call j → 0 ≤ j ∧ j.toNat < ls.length := fun j e => by
      rw [e] at gi
      exact ⟨gi.1, by have := gi.2; omega⟩
    have hV : (if takes (hsL ls) it ≤ Qs.length then Vl (hsL ls) ((Ps.drop (i + 1)).map Prod.fst) (Qs.length - takes (hsL ls) it + 1) else none) = some hh := hV
    have tl : takes (hsL ls) it ≤ Qs.length := by
      by_cases z : takes (hsL ls) it ≤ Qs.length
      · exact z
      · rw [if_neg z] at hV; cases hV
    rw [if_pos tl] at hV
    refine ⟨_, rfl, _, rfl, x, fa, it, ls, rfl, hx, hf.same sJ, cj, ?_⟩
    have k0 : (0 : Int) ≤ (Qs.length : Int) - (takes (hsL ls) it : Nat) := by omega
    have kn : ((Qs.length : Int) - (takes (hsL ls) it : Nat)).toNat = Qs.length - takes (hsL ls) it := by omega
    refine ⟨_, rfl, _, rfl, pl, _, rfl, .inl (h.lst 0 rfl), _, rfl, _, _, rfl, rfl, _, rfl, pl, _, rfl, h.lst 0 rfl, fun e1 ne1 => ?_⟩
    rw [List.length_map, cutV_dropV k0, kn, ← List.map_drop]
    have h := h.new (o := .lst ((Qs.drop (Qs.length - takes (hsL ls) it)).map fun p => V.ref p.2)) ne1
    generalize upd J e1 (.lst ((Qs.drop (Qs.length - takes (hsL ls) it)).map fun p => V.ref p.2)) = J1 at h ⊢
    refine ⟨_, rfl, _, rfl, pl, _, rfl, .inl (h.lst 1 rfl), _, rfl, _, _, rfl, rfl, _, rfl, pl, _, rfl, h.lst 1 rfl, fun e2 ne2 => ?_⟩
    rw [List.length_map, cutV_takeV k0, kn, ← List.map_take]
    have h2 : Hd J1 [(e2, .lst ((Qs.take (Qs.length - takes (hsL ls) it)).map fun p => V.ref p.2))] (upd J1 e2 (.lst ((Qs.take (Qs.length - takes (hsL ls) it)).map fun p => V.ref p.2))) := Hd.base.new ne2
    generalize upd J1 e2 (.lst ((Qs.take (Qs.length - takes (hsL ls) it)).map fun p => V.ref p.2)) = J2 at h2 ⊢
    have sJ1 := sB.trans h.sm
    refine ⟨_, rfl, .inl ⟨rfl, _, h2.lst 0 rfl⟩, hide_at h2 fun B' sB' => ?_⟩
    refine ⟨_, rfl, _, rfl, x, e1, it, Qs.drop (Qs.length - takes (hsL ls) it), hsL ls, wd, nr, m', n', rfl, sB' _ _ (sJ1 _ _ (hI _ mp)), gi, sql_same (h.lst 0 rfl) sB', (fun p hp => (hA p (List.mem_of_mem_drop hp)).same (h.sm.trans sB')), (by rw [List.length_drop]; omega), fun B2 y s2 fy fr => ?_⟩
    have h3 : Hd B2 [(e2, .lst ((Qs.take (Qs.length - takes (hsL ls) it)).map fun p => V.ref p.2))] (upd B2 e2 (.lst ((Qs.take (Qs.length - takes (hsL ls) it)).map fun p => V.ref p.2))) := Hd.base.new fr
    refine ⟨e2, _, _, rfl, rfl, h3.get 0 rfl, (by rw [List.length_map, List.length_take]; omega), ?_⟩
    have h3 := h3.put (o' := .lst ((Qs.take (Qs.length - takes (hsL ls) it) ++ [(made it ((Qs.drop (Qs.length - takes (hsL ls) it)).map Prod.fst), y)]).map fun p => V.ref p.2)) 0 rfl
    rw [List.map_append] at h3
    refine ⟨B2, e2, Qs.take (Qs.length - takes (hsL ls) it) ++ [(made it ((Qs.drop (Qs.length - takes (hsL ls) it)).map Prod.fst), y)], _, _, _, rfl, sJ1.trans (sB'.trans s2), by rw [List.map_append]; exact h3, fun p hp => ?_, by rw [List.length_append, List.length_take]; show _ + 1 ≤ _; omega, ?_, ?_⟩
    · rcases List.mem_append.mp hp with hp | hp
      · exact (hA p (List.mem_of_mem_take hp)).same (h.sm.trans (sB'.trans s2))
      · cases List.mem_singleton.mp hp; exact fy
    · rw [List.length_append, List.length_take, Nat.min_eq_left (Nat.sub_le _ _)]; exact hV
    · rw [er]
      show runF (hsL ls) ((Ps.drop (i + 1)).map Prod.fst) _ = _
      rw [List.length_map, List.map_append, ← List.map_take, ← List.map_drop]
      rfl
  · rintro σ J ⟨B, pl, Qs, u3, u4, u5, rfl, sB, h, hA, hl, hV, er⟩
    rw [List.length_map, List.drop_length] at er hV
    have hQ : Qs.length = hh := by cases (show some _ = some hh from hV); rfl
    obtain ⟨y, a1, a2⟩ := pair_at (Ps := Qs) (i := 0) (by omega)
    refine ⟨_, rfl, pl, _, _, _, rfl, rfl, h.lst 0 rfl, atI_nat a1, q _ y (sB.trans h.sm) ?_⟩
    unfold formOf
    rw [er]
    exact (hA _ a2).same h.sm
end
end K13
namespace L2
open PySem PySem.Spec PyProof.Rows
def ItS (lo c : Int) (n : Nat) : It := ⟨fun i _ => i < n, fun i H x H' => H' = H ∧ x = .int (lo + i * c), fun i _ => n ≤ i⟩
theorem turn_stepped {P : Program} {w : World} {K : PySem.W.Frag} {tg : Expr} (it : Addr) (lo c : Int) (n : Nat) :
    Turn P w K tg (ItS lo c n) [it] it (fun i h => IsRangeIter h it (lo + (i : Nat) * c) ((n : Int) - (i : Nat)) c) where
  mem := List.mem_singleton_self it
  obj := fun i h st b hb => by
    cases List.mem_singleton.mp hb
    refine ⟨_, st, fun v z => ?_⟩
    have y : Data.fields _ = Data.cell v := z
    cases y
  keep := fun i h h' st k => k it (List.mem_singleton_self it) _ st
  item := by
    intro X hP hw hK hc i pins s σ H E I hf st hg
    subst hP; subst hw; subst hK
    obtain ⟨a0, a1, a2, a3, a4, a5⟩ := hf it (List.mem_singleton_self it)
    refine (Walks.range (prog := X.prog) (w := X.w) (I.ok.hd hc) it lo c n).item i s _ _ hg st fun v h' tk hv st' kk => ?_
    obtain ⟨t, rfl⟩ := hv
    have J : Inv X pins σ H { s with heap := h', toks := tk } := I.turned (fun b o hb e => kk b o (by simpa using hb) e) a0 a1 a3 a4 a5
    exact ⟨_, rfl, go_of (s := { s with heap := h', toks := tk }) (n := "range_iterator") st' rfl rfl (by decide) ⟨.int (lo + i * c), H, J, ⟨t, rfl⟩, ⟨rfl, rfl⟩, st', fun b hb => (hf b hb).1⟩⟩
  done := by
    intro X hP hw hK hc i pins s σ H E I hf st hg
    subst hP; subst hw; subst hK
    obtain ⟨a0, a1, a2, a3, a4, a5⟩ := hf it (List.mem_singleton_self it)
    have hn : n ≤ i := hg
    exact wpAny_pyNext_range_end (I.ok.hd hc) st (by omega) fun h' eb => ⟨rfl, I.turned (t' := s.toks) (fun b o hb e => eb b o hb e) a0 a1 a3 a4 a5⟩
  self := fun _ _ _ _ _ st h => wpAny_pyIter_rangeiter st h
theorem small_step {a b c : Int} (ha : 0 ≤ a) (ha' : a < 2 ^ 40) (hb : 0 ≤ b) (hb' : b < 2 ^ 40) (h0 : 0 < c) (h1 : c < 2 ^ 20) : Builtin.Range.small a b c = true := by
  unfold Builtin.Range.small
  have q : Builtin.Range.rangeSize a b c ≤ 2 ^ 40 ∧ 0 ≤ Builtin.Range.rangeSize a b c := by
    unfold Builtin.Range.rangeSize
    rw [if_pos (show c > 0 from h0)]
    split
    · have z := Int.ediv_le_self (b := c) (show 0 ≤ b - a - 1 by omega)
      have y := Int.ediv_nonneg (show 0 ≤ b - a - 1 by omega) (show 0 ≤ c by omega)
      omega
    · omega
  simp only [Builtin.Range.rangeFitsLong, Bool.and_eq_true, Bool.or_eq_true, decide_eq_true_eq, beq_iff_eq]
  refine ⟨⟨⟨⟨⟨by omega, by omega⟩, by omega, by omega⟩, by omega, by omega⟩, by omega, by omega⟩, .inr ?_⟩
  rw [if_pos (show c > 0 from h0), decide_eq_true (show -2 ^ 63 ≤ b + (c - 1) by omega), decide_eq_true (show b + (c - 1) < 2 ^ 63 by omega)]
  rfl
section
variable {X : Cx} {tg : Expr}
def iRngS (ta : TA) : TI := fun σ H R => ta σ H fun vs H1 => ∃ (i j c : Int) (n : Nat), vs = [.int i, .int j, .int c] ∧ (0 ≤ i ∧ i < 2 ^ 40 ∧ 0 ≤ j ∧ j < 2 ^ 40 ∧ 0 < c ∧ c < 2 ^ 20) ∧ Builtin.Range.rangeSize i j c = n ∧ R (ItS i c n) H1
theorem stepped_it {pins : List (Addr × Obj)} {σ : St} {H : Hp} {s : Shared} {R : It → Hp → Prop} {E : Value → Shared → Prop} {lo hi c : Int} {n : Nat} {t u v : Tok} {tk : Nat} (I : Inv X pins σ H s) (hs : Builtin.Range.small lo hi c = true) (hn : Builtin.Range.rangeSize lo hi c = n)
    (q : R (ItS lo c n) H) : wpAny (model X.prog X.w) X.A (pyIter (.ref s.heap.objs.size)) (PIE X pins σ tg R) E { s with heap := s.heap.push { cls := .type "range", data := .fields #[.int lo t, .int hi u, .int c v] }, toks := tk } := by
  refine wpAny_pyIter_range (IsRange.new ..) hs ?_
  have J : Inv X pins σ H { s with heap := s.heap.push { cls := .type "range", data := .fields #[.int lo t, .int hi u, .int c v] }, toks := tk } := I.kept fun b o e => Heap.get?_push_of_some _ e
  generalize hh : s.heap.push { cls := .type "range", data := .fields #[.int lo t, .int hi u, .int c v] } = h1 at J ⊢
  refine ⟨h1.objs.size, [h1.objs.size], _, _, H, rfl, J.kept (t' := tk) fun b o e => Heap.get?_push_of_some _ e, turn_stepped _ lo c n, ?_, fun b hb => ?_, q⟩
  · show IsRangeIter _ _ (lo + ((0 : Nat) : Int) * c) ((n : Int) - ((0 : Nat) : Int)) c
    rw [show lo + ((0 : Nat) : Int) * c = lo by simp, show (n : Int) - ((0 : Nat) : Int) = Builtin.Range.rangeSize lo hi c by rw [hn]; simp]
    exact Heap.get?_push_size _ rfl
  · cases List.mem_singleton.mp hb
    exact J.fpOk (Nat.le_refl _) (J.hok.fresh (Nat.le_refl _))
theorem pi_range3 {a b c : Expr} {ta : TA} {p pos : Pos} (hg : Gl X "range") (hm : X.mg "range" = none) (ha : PA X [a, b, c] ta) (hs : starEach [a, b, c] X.env = [(false, eval a X.env), (false, eval b X.env), (false, eval c X.env)] := by rfl)
    (hs2 : starEach [b, c] X.env = [(false, eval b X.env), (false, eval c X.env)] := by rfl) : PI X tg (.Call (.Name "range" p) [a, b, c] [] pos) (iRngS ta) := by
  intro pins s σ H R I h
  refine Call_ (ld_blt I hg hm boot_range (PyProof.Rows.callWith_type1 (thn (ha pos pins s σ H _ I h) fun us s1 ⟨vs, H1, I1, r1, q1⟩ => ?_) (by rw [hs, hs2]) (by rw [hs2]; rfl)))
  obtain ⟨i, j, k, n, e, ⟨b1, b2, b3, b4, b5, b6⟩, en, q⟩ := q1
  subst e
  cases r1 with
  | cons r rr =>
    cases rr with
    | cons r' rr =>
      cases rr with
      | cons r'' rr =>
        cases rr
        obtain ⟨t, rfl⟩ := r
        obtain ⟨t', rfl⟩ := r'
        obtain ⟨t'', rfl⟩ := r''
        refine call_range_3 (by omega) (stepped_it I1 (small_step b1 b2 b3 b4 b5 b6) en q) (.inl ?_)
        exact PyProof.noPylong_small (by omega)
end
end L2
namespace L2
open PySem PySem.Spec PyProof.Rows
theorem at_last {ns : List Int} (h : 0 < ns.length) : atI (ns.map V.int) (-1) = some (.int (ns.getD (ns.length - 1) 0)) := by
  unfold atI ixN
  rw [if_neg (by decide), if_pos (by rw [List.length_map]; omega)]
  rw [List.length_map]
  show (ns.map V.int)[((-1 : Int) + ns.length).toNat]? = _
  rw [show ((-1 : Int) + ns.length).toNat = ns.length - 1 by omega, List.getElem?_map, List.getD_eq_getElem?_getD, List.getElem?_eq_getElem (show ns.length - 1 < ns.length by omega)]
  rfl
section
variable {X : Cx}
def rNeS (K : PySem.W.Frag) : R2 := fun x y H Q => ∃ (a b : Addr) (as : List Addr), x = .ref a ∧ y = .ref b ∧ SqL K H a (as.map V.ref) ∧ SqL K H b (as.map V.ref) ∧ Q (.bl false) H
theorem for_step {lo c : Int} {n : Nat} {g : TG} {tb : TS} {D : Ends} {σ : St} {H : Hp} (Pv : Nat → St → Hp → Prop) (h0 : Pv 0 σ H)
    (hs : ∀ i σ H, i < n → Pv i σ H → g (.int (lo + i * c)) σ H fun σ2 H2 => tb { D with nx := Pv (i + 1), ct := Pv (i + 1), bk := D.nx } σ2 H2) (hd : ∀ σ H, Pv n σ H → D.nx σ H) :
    ∃ W : Nat → Nat → St → Hp → Prop, (∃ m, W 0 m σ H) ∧ ∀ i m σ H, W i m σ H →
      ((ItS lo c n).stop i H ∧ D.nx σ H) ∨ ((ItS lo c n).go i H ∧ ∃ N : St → Hp → Prop, (∀ σ' H', N σ' H' → ∃ m', m' < m ∧ W (i + 1) m' σ' H') ∧ ∀ x H', (ItS lo c n).yld i H x H' → g x σ H' fun σ2 H2 => tb { D with nx := N, ct := N, bk := D.nx } σ2 H2) := by
  refine ⟨fun i m σ H => m = n - i ∧ i ≤ n ∧ Pv i σ H, ⟨n, by simp, Nat.zero_le _, h0⟩, ?_⟩
  rintro i m σ H ⟨rfl, hi, p⟩
  by_cases hlt : i < n
  · refine .inr ⟨hlt, Pv (i + 1), fun σ' H' p' => ⟨n - (i + 1), by omega, rfl, hlt, p'⟩, fun x H' y => ?_⟩
    obtain ⟨e, y⟩ := y
    subst e y
    exact hs i σ _ hlt p
  · have e : i = n := by omega
    subst e
    exact .inl ⟨Nat.le_refl _, hd σ H p⟩
theorem step_size {n c : Int} (hn : 0 ≤ n) (hc : 0 < c) : Builtin.Range.rangeSize 0 n c = (((n + c - 1) / c).toNat : Int) := by
  unfold Builtin.Range.rangeSize
  rw [if_pos hc]
  split
  · rename_i z
    have e : (n - 0 - 1) / c + 1 = (n + c - 1) / c := by
      rw [show n + c - 1 = (n - 0 - 1) + c * 1 by omega, Int.add_mul_ediv_left _ _ (by omega)]
    have : 0 ≤ (n + c - 1) / c := Int.ediv_nonneg (by omega) (by omega)
    omega
  · rename_i z
    have : n = 0 := by omega
    subst this
    have : (0 + c - 1) / c = 0 := Int.ediv_eq_zero_of_lt (by omega) (by omega)
    omega
end
end L2
namespace L2
open PySem PySem.Spec PyProof.Rows
def rCatQ (K : PySem.W.Frag) : R2 := fun x y H Q => ∃ l b xs zs, x = .ref l ∧ y = .ref b ∧ SqL K H l xs ∧ SqL K H b zs ∧ xs.length + zs.length ≤ sizeLine ∧ ∀ p, H p = none → Q (.ref p) (upd H p (.lst (xs ++ zs)))
theorem op_catQ {X : Cx} : OpR X (binaryOp .Add) (rCatQ X.K) := by
  intro pins s σ H x y v u Q I rx ry h
  obtain ⟨l, b, xs, zs, rfl, rfl, hl, hb, hz, q⟩ := h
  cases (show v = Value.ref l from rx)
  cases (show u = Value.ref b from ry)
  obtain ⟨i1, r1, ⟨⟨c1, d1, e1, f1⟩, n1, o1, k1, _, g1⟩, _⟩ := I.list hl
  obtain ⟨i2, r2, ⟨⟨c2, d2, e2, f2⟩, n2, o2, k2, _, g2⟩, _⟩ := I.list hb
  simp only at k1 g1 k2 g2
  subst k1 g1 k2 g2
  have ea : i1.toArray ++ i2.toArray = (i1 ++ i2).toArray := by simp
  have z1 := r1.length
  have z2 := r2.length
  refine PySem.concat_meets ⟨_, o1, rfl⟩ ⟨_, o2, rfl⟩ PySem.noFill_list_add PySem.seq_list_add PySem.F.slot_list_add PySem.F.entry_list_add (PySem.F.args_list_add_2 _ _) (PyProof.Rows.list_addW l b i1.toArray i2.toArray n1 n2 d1 d2 f1 f2 (by simp only [List.size_toArray]; omega)) ⟨o1, o2, ?_⟩
  rw [ea]
  exact ⟨.ref s.heap.objs.size, _, I.lnew (t' := s.toks) (r1.append r2) (by rw [List.length_append]; exact hz), rfl, q _ I.fresh⟩
end L2
namespace K13
open PySem L2 FM PO
theorem tup_put {J : Hp} {x a : Addr} {v ys : List V} {o : HO} (h : J x = some (.tup v)) (e : J a = some (.lst ys)) : upd J a o x = some (.tup v) := by
  rw [upd_ne (fun z => by subst z; rw [e] at h; cases h)]; exact h
theorem name_call {it : Item} (h : it.name = "call") : ∃ j, it = .call j := by
  cases it with
  | call j => exact ⟨j, rfl⟩
  | num n => exact absurd h (by show ¬ ("number" : Str) = "call"; decide)
  | here => exact absurd h (by show ¬ ("here" : Str) = "call"; decide)
  | loc i => exact absurd h (by show ¬ ("local" : Str) = "call"; decide)
  | pair s => exact absurd h (by show ¬ ("pair" : Str) = "call"; decide)
  | cho => exact absurd h (by show ¬ ("choice" : Str) = "call"; decide)
  | cell r => exact absurd h (by show ¬ ("cell" : Str) = "call"; decide)
  | shi r b o => exact absurd h (by show ¬ ("shifted" : Str) = "call"; decide)
  | at' r => exact absurd h (by show ¬ ("at" : Str) = "call"; decide)
def PairsIn (H : Hp) (xs : List Addr) : Prop := ∀ x ∈ xs, ∃ a b : Int, H x = some (.tup [.int a, .int b])
theorem PairsIn.same {H H' : Hp} {xs : List Addr} (h : PairsIn H xs) (s : Same H H') : PairsIn H' xs := fun x hx => let ⟨a, b, e⟩ := h x hx; ⟨a, b, s _ _ e⟩
section
variable {P : Program} {w : World} {K : PySem.W.Frag} {mg : Str → Option Value} {base : Heap}
theorem _root_.L2.Hd.join {B : Hp} {L : List (Addr × HO)} {J J1 : Hp} {a : Addr} {o : HO} (h : Hd B L J) (h' : Hd J [(a, o)] J1) : Hd B ((a, o) :: L) J1 :=
  (h.same h'.sm).add (fun p m => ne_of_none (h.st p m) (h'.nw (a, o) List.mem_cons_self)) (h.free (h'.nw (a, o) List.mem_cons_self)) (h'.get 0 rfl)
theorem pairs_dv {J : Hp} : ∀ {xs : List Addr}, PairsIn J xs → ∃ ds : List PyData, ds.length = xs.length ∧ DVs K J (xs.map V.ref) ds ∧ PyData.canLayAll0 ds = true ∧ PyData.depthAll ds ≤ 3
  | [], _ => ⟨[], rfl, .nil, rfl, dep_nil⟩
  | x :: xs, h => by
    obtain ⟨ds, a1, a2, a3, a4⟩ := pairs_dv (xs := xs) fun y hy => h y (List.mem_cons_of_mem _ hy)
    obtain ⟨a, b, e⟩ := h x List.mem_cons_self
    refine ⟨.tuple [.int a, .int b] :: ds, by rw [List.length_cons, List.length_cons, a1], .cons (.tup (SqT.of e) (.cons (.int _) (.cons (.int _) .nil))) a2, ?_, dep_cons (Nat.le_trans (dep_tup (n := 2) (dep_cons (by show PyData.depth (.int _) ≤ 2; simp [PyData.depth]) (dep_cons (by show PyData.depth (.int _) ≤ 2; simp [PyData.depth]) dep_nil))) (by decide)) a4⟩
    show (PyData.canLay0 (.tuple [.int a, .int b]) && PyData.canLayAll0 ds) = true
    rw [a3]
    rfl
theorem rep_map (n : Nat) (t : Addr) (it : Item) : (List.replicate n [V.ref t]).flatten = (List.replicate n (it, t)).map fun p => V.ref p.2 := by
  induction n with
  | zero => rfl
  | succ n ih => rw [List.replicate_succ, List.replicate_succ, List.flatten_cons, ih, List.map_cons]; rfl
theorem ref_at {xs : List Addr} {i : Nat} {y : V} (h : (xs.map V.ref)[i]? = some y) : ∃ x, x ∈ xs ∧ y = .ref x := by
  rw [List.getElem?_map] at h
  cases e : xs[i]? with
  | none => rw [e] at h; cases h
  | some x => rw [e] at h; cases h; exact ⟨x, List.mem_of_getElem? e, rfl⟩
def spGrown (K : PySem.W.Frag) : Sp := fun vs H Q _ => ∃ (pl x fa : Addr) (room : Int) (xs : List Addr) (it : Item) (ls : List FnL), vs = [.ref pl, .ref x, .ref fa, .int room] ∧ SqL K H pl (xs.map V.ref) ∧ PairsIn H xs ∧ xs.length ≤ 200 ∧ H x = some (.tup it.v) ∧ LFuns K H fa ls ∧ (∀ j, it = .call j → 0 ≤ j ∧ j.toNat < ls.length) ∧
  (∀ H', Same H H' → Q .non H') ∧ (takes (hsL ls) it ≤ xs.length → ∀ H' y ys, Hd H [(y, .lst (ys.map V.ref))] H' → PairsIn H' ys → ys.length = xs.length - takes (hsL ls) it + 1 → Q (.ref y) H')
theorem ok_grown (d : DefIn K mg "_law_grown" s_l_grown ["_law_pile", "_law_item", "_law_functions", "_law_room"]) (hlen : mg "len" = none) (hmax : mg "max" = none) (TK : Ok P w K mg base (CXe P w base) 1 "_law_takes" ["_law_item", "_law_functions"] (spTakes K)) : Ok P w K mg base CX0 2 "_law_grown" ["_law_pile", "_law_item", "_law_functions", "_law_room"] (spGrown K) := by
  obtain ⟨g, fd, m, F, b⟩ := d
  refine ⟨g, fd, m, F.kp, b, F.ok sc_l_grown (fun vs H Q E ⟨_, _, _, _, _, _, _, e, _⟩ => by rw [e]; rfl) fun cdv A outer s H vs Q E hr h => ?_⟩
  obtain ⟨pl, x, fa, room, xs, it, ls, rfl, hp, hP, hl, hx, hf, hc, q1, q2⟩ := h
  have nd := sc_l_grown.nd
  have hr1 := hr
  have SL : (600 : Nat) < sizeLine := by decide
  refine ⟨_, (pss_cons (ps_set (i := 4) nd rfl (Or.inl rfl) (pe_ok TK hr1 (by rfl) passF (pa_cons (pv 1) (pa_cons (pv 2) pa_nil))))
      (pss_cons (ps_if (pt_cmpR op_gt (pv 4) (pe_callB call_len_seq (by rfl) hlen PySem.boot_len (pa_cons (pv 0) pa_nil)) (nomark _)) (pss_one (ps_ret pe_non)) pss_nil)
      (pss_cons (ps_set (i := 5) nd rfl (Or.inl rfl) pe_int)
      (pss_cons (ps_set (i := 6) nd rfl (Or.inl rfl) pe_int)
      (pss_cons (ps_for PassesOwn.never rfl (pi_list (pe_slice sl_list (pv 0) (po_some (pe_op op_sub (pe_callB call_len_seq (by rfl) hlen PySem.boot_len (pa_cons (pv 0) pa_nil)) (pv 4))) po_none)) (pg_name (i := 7) nd rfl (Or.inl rfl)) (pss_cons (ps_aug (i := 5) nd rfl (Or.inl rfl) (pe_ix ix_tup (pv 7) pe_int (fun _ _ => rfl)) ip_add)
      (pss_one (ps_set (i := 6) nd rfl (Or.inl rfl) (pe_callB (call_max2 rfl) rfl hmax PyProof.Rows.boot_max (pa_cons (pv 6) (pa_cons (pe_ix ix_tup (pv 7) pe_int (fun _ _ => rfl)) pa_nil)))))))
      (pss_cons (ps_mid (ps_if (pt_cmpR op_eq (pe_ix ix_tup (pv 1) pe_int (fun _ _ => rfl)) pe_str (nomark _)) (pss_cons (ps_aug (i := 5) nd rfl (Or.inl rfl) (pe_ix ix_tup (pe_ix ix_list (pv 2) (pe_ix ix_tup (pv 1) pe_int (fun _ _ => rfl)) (fun _ _ => rfl)) pe_int (fun _ _ => rfl)) ip_add)
      (pss_one (ps_set (i := 6) nd rfl (Or.inl rfl) (pe_callB (call_max2 rfl) rfl hmax PyProof.Rows.boot_max (pa_cons (pv 6) (pa_cons (pe_ix ix_tup (pe_ix ix_list (pv 2) (pe_ix ix_tup (pv 1) pe_int (fun _ _ => rfl)) (fun _ _ => rfl)) pe_int (fun _ _ => rfl)) pa_nil)))))) pss_nil))
      (pss_cons (ps_mid (ps_if (pt_cmpR op_eq (pe_ix ix_tup (pv 1) pe_int (fun _ _ => rfl)) pe_str (nomark _)) (pss_one (ps_aug (i := 6) nd rfl (Or.inl rfl) pe_int ip_add)) pss_nil))
      (pss_cons (ps_set (i := 8) nd rfl (Or.inl rfl) (pe_op op_catQ (pe_slice sl_list (pv 0) po_none (po_some (pe_op op_sub (pe_callB call_len_seq (by rfl) hlen PySem.boot_len (pa_cons (pv 0) pa_nil)) (pv 4)))) (pe_lst (pa_cons (pe_tup (pa_cons (pv 5) (pa_cons (pv 6) pa_nil))) pa_nil))))
      (pss_cons (ps_set (i := 9) nd rfl (Or.inl rfl) (pe_op op_sub (pe_callB call_len_seq (by rfl) hlen PySem.boot_len (pa_cons (pv 8) pa_nil)) pe_int))
      (pss_cons (ps_for PassesOwn.never rfl (pi_list (pv 8)) (pg_name (i := 7) nd rfl (Or.inl rfl)) (pss_one (ps_aug (i := 9) nd rfl (Or.inl rfl) (pe_ix ix_tup (pv 7) pe_int (fun _ _ => rfl)) ip_add)))
      (pss_cons (ps_if (pw_or (pt_cmpR op_gt (pv 9) (pv 3) (nomark _)) (pw_or1 (pt_cmpR op_gt (pv 6) pe_int (nomark _)))).pt (pss_one (ps_ret pe_non)) pss_nil)
      (pss_one (ps_ret (pv 8)))))))))))))), ?_⟩
  refine ⟨_, rfl, _, rfl, x, fa, it, ls, rfl, hx, hf, hc, ?_⟩
  refine ⟨_, rfl, _, rfl, pl, _, rfl, .inl hp, _, _, rfl, rfl, _, rfl, ?_⟩
  rw [List.length_map]
  refine ite2 (fun z => q1 _ (Same.refl _)) (fun z => ?_)
  have z : takes (hsL ls) it ≤ xs.length := by
    have : ¬ ((takes (hsL ls) it : Nat) : Int) > (xs.length : Int) := by simpa using z
    omega
  have q2 := q2 z
  have k0 : (0 : Int) ≤ (xs.length : Int) - (takes (hsL ls) it : Nat) := by omega
  have kn : ((xs.length : Int) - (takes (hsL ls) it : Nat)).toNat = xs.length - takes (hsL ls) it := by omega
  have n1 := it.at0
  refine ⟨_, rfl, _, rfl, pl, _, rfl, .inl hp, _, rfl, _, _, rfl, rfl, _, rfl, pl, _, rfl, hp, fun e1 ne1 => ?_⟩
  rw [List.length_map, cutV_dropV k0, kn, ← List.map_drop]
  have h : Hd H [(e1, .lst ((xs.drop (xs.length - takes (hsL ls) it)).map V.ref))] _ := Hd.base.new ne1
  generalize upd H e1 (.lst ((xs.drop (xs.length - takes (hsL ls) it)).map V.ref)) = H1 at h ⊢
  refine ⟨e1, rfl, ⟨_, h.lst 0 rfl⟩, ?_⟩
  refine for_list (K := K) (a := e1) (xs := (xs.drop (xs.length - takes (hsL ls) it)).map V.ref) (fun i σ J => ∃ (sz dp : Int) (u7 : Option V), σ = [some (.ref pl), some (.ref x), some (.ref fa), some (.int room), some (.int (takes (hsL ls) it : Nat)), some (.int sz), some (.int dp), u7, none, none] ∧ J = H1) ⟨1, 0, none, rfl, rfl⟩ (fun i σ J _ ⟨_, _, _, _, e⟩ => by rw [e]; exact h.lst 0 rfl) ?_ ?_
  · rintro i y σ J hi ⟨sz, dp, u7, rfl, rfl⟩
    obtain ⟨t, mt, rfl⟩ := ref_at hi
    obtain ⟨a, b, e⟩ := hP t (List.mem_of_mem_drop mt)
    have e := h.sm _ _ e
    exact ⟨_, rfl, _, rfl, t, _, 0, .int a, rfl, rfl, SqT.of e, rfl, _, _, rfl, rfl, _, rfl, _, rfl, t, _, 1, .int b, rfl, rfl, SqT.of e, rfl, _, _, rfl, _, _, _, rfl, rfl⟩
  rintro σ J ⟨sz, dp, u7, rfl, rfl⟩
  refine ⟨fun σ' H' => ∃ sz dp : Int, σ' = [some (.ref pl), some (.ref x), some (.ref fa), some (.int room), some (.int (takes (hsL ls) it : Nat)), some (.int sz), some (.int dp), u7, none, none] ∧ H' = J, ?_, ?_⟩
  · refine ⟨_, rfl, x, _, 0, _, rfl, rfl, SqT.of (h.sm _ _ hx), n1, rfl, _, rfl, ?_⟩
    refine ite2 (fun z => ?_) (fun z => ⟨sz, dp, rfl, rfl⟩)
    have z : it.name = "call" := by
      have := of_decide_eq_true z
      injection this
    obtain ⟨j, rfl⟩ := name_call z
    obtain ⟨h0, h1⟩ := hc j rfl
    obtain ⟨ys, t, a1, a2, a3⟩ := (hf.same h.sm).get h0 h1
    obtain ⟨pa, Ps, b1, _⟩ := id a3
    have hx' := h.sm _ _ hx
    exact ⟨_, rfl, _, rfl, _, rfl, x, _, 1, .int j, rfl, rfl, SqT.of hx', rfl, fa, _, _, _, rfl, rfl, a1, a2, t, _, 2, _, rfl, rfl, SqT.of b1, rfl, _, _, rfl, rfl, _, rfl, _, rfl, _, rfl, x, _, 1, .int j, rfl, rfl, SqT.of hx', rfl, fa, _, _, _, rfl, rfl, a1, a2, t, _, 3, _, rfl, rfl, SqT.of b1, rfl, _, _, rfl, _, _, rfl, rfl⟩
  rintro σ' H' ⟨sz, dp, rfl, rfl⟩
  refine ⟨fun σ' H'' => ∃ dp : Int, σ' = [some (.ref pl), some (.ref x), some (.ref fa), some (.int room), some (.int (takes (hsL ls) it : Nat)), some (.int sz), some (.int dp), u7, none, none] ∧ H'' = H', ?_, ?_⟩
  · refine ⟨_, rfl, x, _, 0, _, rfl, rfl, SqT.of (h.sm _ _ hx), n1, rfl, _, rfl, ?_⟩
    exact ite2 (fun z => ⟨_, rfl, _, _, rfl, rfl, _, rfl, rfl⟩) (fun z => ⟨dp, rfl, rfl⟩)
  rintro σ' H'' ⟨dp, rfl, rfl⟩
  refine ⟨_, rfl, _, rfl, pl, _, rfl, .inl (h.sql hp), _, rfl, _, _, rfl, rfl, _, rfl, pl, _, rfl, h.sql hp, fun e2 ne2 => ?_⟩
  rw [List.length_map, cutV_takeV k0, kn, ← List.map_take]
  have h := h.new (o := .lst ((xs.take (xs.length - takes (hsL ls) it)).map V.ref)) ne2
  generalize upd H'' e2 (.lst ((xs.take (xs.length - takes (hsL ls) it)).map V.ref)) = H2 at h ⊢
  refine ⟨_, rfl, _, rfl, (by show 2 ≤ sizeLine; decide), fun t nt => ?_⟩
  have h := h.new (o := .tup [.int sz, .int dp]) nt
  generalize upd H2 t (.tup [.int sz, .int dp]) = H3 at h ⊢
  refine ⟨(by show 1 ≤ sizeLine; decide), fun e3 ne3 => ?_⟩
  have h := h.new (o := .lst [.ref t]) ne3
  generalize upd H3 e3 (.lst [.ref t]) = H4 at h ⊢
  refine ⟨e2, e3, _, _, rfl, rfl, h.lst 2 rfl, h.lst 0 rfl, (by rw [List.length_map, List.length_take]; show _ + 1 ≤ _; omega), fun y ny => ?_⟩
  have ey : ((xs.take (xs.length - takes (hsL ls) it)).map V.ref) ++ [V.ref t] = (xs.take (xs.length - takes (hsL ls) it) ++ [t]).map V.ref := by rw [List.map_append]; rfl
  rw [ey]
  have h := h.new (o := .lst ((xs.take (xs.length - takes (hsL ls) it) ++ [t]).map V.ref)) ny
  generalize upd H4 y (.lst ((xs.take (xs.length - takes (hsL ls) it) ++ [t]).map V.ref)) = H5 at h ⊢
  have hP5 : PairsIn H5 (xs.take (xs.length - takes (hsL ls) it) ++ [t]) := fun z hz => by
    rcases List.mem_append.mp hz with hz | hz
    · exact (hP.same h.sm) z (List.mem_of_mem_take hz)
    · cases List.mem_singleton.mp hz
      exact ⟨sz, dp, h.get 2 rfl⟩
  have yl : (xs.take (xs.length - takes (hsL ls) it) ++ [t]).length = xs.length - takes (hsL ls) it + 1 := by rw [List.length_append, List.length_take, Nat.min_eq_left (Nat.sub_le _ _)]; rfl
  generalize xs.take (xs.length - takes (hsL ls) it) ++ [t] = ys at h hP5 yl
  refine ⟨_, rfl, y, _, rfl, .inl (h.lst 0 rfl), _, _, rfl, rfl, ?_⟩
  refine ⟨_, rfl, y, rfl, ⟨_, h.lst 0 rfl⟩, ?_⟩
  refine for_list (K := K) (a := y) (xs := ys.map V.ref) (fun i σ J => ∃ (to : Int) (u7 : Option V), σ = [some (.ref pl), some (.ref x), some (.ref fa), some (.int room), some (.int (takes (hsL ls) it : Nat)), some (.int sz), some (.int dp), u7, some (.ref y), some (.int to)] ∧ J = H5) ⟨_, _, rfl, rfl⟩ (fun i σ J _ ⟨_, _, _, e⟩ => by rw [e]; exact h.lst 0 rfl) ?_ ?_
  · rintro i z σ J hi ⟨to, u7, rfl, rfl⟩
    obtain ⟨t', mt, rfl⟩ := ref_at hi
    obtain ⟨a, b, e⟩ := hP5 t' mt
    exact ⟨_, rfl, _, rfl, t', _, 0, .int a, rfl, rfl, SqT.of e, rfl, _, _, rfl, rfl, _, _, rfl, rfl⟩
  rintro σ J ⟨to, u7', rfl, rfl⟩
  refine ⟨_, rfl, _, rfl, _, _, rfl, rfl, _, rfl, ?_⟩
  refine ite2 (fun z => iteT (q1 _ h.sm)) (fun z => ?_)
  refine ⟨_, rfl, _, _, rfl, rfl, _, rfl, ?_⟩
  refine ite2 (fun z => q1 _ h.sm) (fun z => ?_)
  exact ⟨_, rfl, q2 _ y ys (h.sub (List.Sublist.cons₂ _ (List.nil_sublist _))) hP5 yl⟩
def spPostBy (K : PySem.W.Frag) : Sp := fun vs H Q _ => ∃ (ca fa wa la : Addr) (wd lens : List Int) (m : Nat) (room : Int) (ns : List Int) (ls : List FnL), vs = [.ref ca, .ref wa, .ref la, .int (m : Int), .ref fa, .int room] ∧ SqL K H ca (ns.map V.int) ∧ ns.length ≤ 30 ∧ SqL K H wa (wd.map V.int) ∧ SqL K H la (lens.map V.int) ∧ (∀ v ∈ lens, Kin v) ∧ LFuns K H fa ls ∧
  ∀ (H' : Hp) (t po : Addr) (Ps : List (Item × Addr)) (sz dp : Int), H po = none → Same H H' → H' t = some (.tup [.ref po, .int sz, .int dp]) → H' po = some (.lst (Ps.map fun p => V.ref p.2)) → (∀ p ∈ Ps, H' p.2 = some (.tup p.1.v)) → (∀ p ∈ Ps, ItG wd lens.length m ls.length p.1) → Ps.length ≤ 6 * ns.length + 2 → Vl (hsL ls) (Ps.map Prod.fst) 0 = some 1 → Q (.ref t) H'
theorem ok_postBy (d : DefIn K mg "_law_post_by" s_l_post_by ["_law_cells", "_law_wide", "_law_lengths", "_law_hands", "_law_functions", "_law_room"]) (hlen : mg "len" = none) (hmax : mg "max" = none) (IT : Ok P w K mg base CX0 2 "_law_items_by" ["_law_cell", "_law_wide", "_law_lengths", "_law_hands", "_law_functions"] (spItems K)) (GR : Ok P w K mg base CX0 2 "_law_grown" ["_law_pile", "_law_item", "_law_functions", "_law_room"] (spGrown K)) : Ok P w K mg base CX0 3 "_law_post_by" ["_law_cells", "_law_wide", "_law_lengths", "_law_hands", "_law_functions", "_law_room"] (spPostBy K) := by
  obtain ⟨g, fd, m, F, b⟩ := d
  refine ⟨g, fd, m, F.kp, b, F.ok sc_l_post_by (fun vs H Q E ⟨_, _, _, _, _, _, _, _, _, _, e, _⟩ => by rw [e]; rfl) fun cdv A outer s H vs Q E hr h => ?_⟩
  obtain ⟨ca, fa, wa, la, wd, lens, m', room, ns, ls, rfl, hS, hn, hwa, hla, hlk, hf, q⟩ := h
  have nd := sc_l_post_by.nd
  have hr2 := hr
  have hu := hr.units
  have SL : (600 : Nat) < sizeLine := by decide
  refine ⟨_, (pss_cons (ps_set (i := 6) nd rfl (Or.inl rfl) (pe_lst pa_nil))
      (pss_cons (ps_set (i := 7) nd rfl (Or.inl rfl) (pe_lst pa_nil))
      (pss_cons (ps_for PassesOwn.never rfl (pi_list (pv 0)) (pg_name (i := 8) nd rfl (Or.inl rfl)) (pss_one (ps_for PassesOwn.never rfl (pi_list (pe_ok IT hr2 (by rfl) pass0 (pa_cons (pv 8) (pa_cons (pv 1) (pa_cons (pv 2) (pa_cons (pv 3) (pa_cons (pv 4) pa_nil))))))) (pg_name (i := 9) nd rfl (Or.inl rfl)) (pss_cons (ps_set (i := 10) nd rfl (Or.inl rfl) (pe_ok GR hr2 (by rfl) pass0 (pa_cons (pv 7) (pa_cons (pv 9) (pa_cons (pv 4) (pa_cons (pv 5) pa_nil))))))
      (pss_one (ps_if (pt_cmpR op_notN (pv 10) pe_non (nomark _)) (pss_cons (ps_expr (pe_bm PySem.F.plainAttrs_list PySem.F.slot_list_append PySem.F.type_list_append mt_append (pv 6) (pa_cons (pv 9) pa_nil)))
      (pss_one (ps_set (i := 7) nd rfl (Or.inl rfl) (pv 10)))) pss_nil))))))
      (pss_cons (ps_mid (ps_if (pt_cmpR (op_eqD hu) (pv 7) (pe_lst pa_nil) (nomark _)) (pss_cons (ps_expr (pe_bm PySem.F.plainAttrs_list PySem.F.slot_list_append PySem.F.type_list_append mt_append (pv 6) (pa_cons (pe_tup (pa_cons pe_str pa_nil)) pa_nil)))
      (pss_one (ps_expr (pe_bm PySem.F.plainAttrs_list PySem.F.slot_list_append PySem.F.type_list_append mt_append (pv 7) (pa_cons (pe_tup (pa_cons pe_int (pa_cons pe_int pa_nil))) pa_nil))))) pss_nil))
      (pss_cons (ps_set (i := 11) nd rfl (Or.inl rfl) (pe_op op_sub (pe_callB call_len_seq (by rfl) hlen PySem.boot_len (pa_cons (pv 7) pa_nil)) pe_int))
      (pss_cons (ps_set (i := 12) nd rfl (Or.inl rfl) pe_int)
      (pss_cons (ps_for PassesOwn.never rfl (pi_list (pv 7)) (pg_name (i := 13) nd rfl (Or.inl rfl)) (pss_cons (ps_aug (i := 11) nd rfl (Or.inl rfl) (pe_ix ix_tup (pv 13) pe_int (fun _ _ => rfl)) ip_add)
      (pss_one (ps_set (i := 12) nd rfl (Or.inl rfl) (pe_callB (call_max2 rfl) rfl hmax PyProof.Rows.boot_max (pa_cons (pv 12) (pa_cons (pe_ix ix_tup (pv 13) pe_int (fun _ _ => rfl)) pa_nil)))))))
      (pss_cons (ps_expr (pe_bm PySem.F.plainAttrs_list PySem.F.slot_list_extend PySem.F.type_list_extend mt_extend (pv 6) (pa_cons (pe_op op_rep (pe_lst (pa_cons (pe_tup (pa_cons pe_str (pa_cons pe_str pa_nil))) pa_nil)) (pe_op op_sub (pe_callB call_len_seq (by rfl) hlen PySem.boot_len (pa_cons (pv 7) pa_nil)) pe_int)) pa_nil)))
      (pss_one (ps_ret (pe_tup (pa_cons (pv 6) (pa_cons (pv 11) (pa_cons (pv 12) pa_nil)))))))))))))), ?_⟩
  refine ⟨(by show 0 ≤ sizeLine; decide), fun po npo => ⟨(by show 0 ≤ sizeLine; decide), fun pl npl => ?_⟩⟩
  have h0 : Hd H [(po, .lst (([] : List (Item × Addr)).map fun p => V.ref p.2)), (pl, .lst (([] : List Addr).map V.ref))] (upd (upd H po (.lst [])) pl (.lst [])) := ((Hd.base.new (o := .lst []) npo).new (o := .lst []) npl).perm (List.Perm.swap _ _ _)
  generalize upd (upd H po (.lst [])) pl (.lst []) = H1 at h0 ⊢
  refine ⟨_, rfl, ca, rfl, ⟨_, h0.sql hS⟩, ?_⟩
  refine for_list (K := K) (a := ca) (xs := ns.map V.int) (fun i σ J => ∃ (pl : Addr) (Ps : List (Item × Addr)) (xs : List Addr) (u8 u9 u10 : Option V), σ = [some (.ref ca), some (.ref wa), some (.ref la), some (.int (m' : Int)), some (.ref fa), some (.int room), some (.ref po), some (.ref pl), u8, u9, u10, none, none, none] ∧ Hd H [(po, .lst (Ps.map fun p => V.ref p.2)), (pl, .lst (xs.map V.ref))] J ∧ (∀ p ∈ Ps, J p.2 = some (.tup p.1.v)) ∧ (∀ p ∈ Ps, ItG wd lens.length m' ls.length p.1) ∧ PairsIn J xs ∧ Ps.length ≤ 3 * i ∧ xs.length ≤ 3 * i ∧ Vl (hsL ls) (Ps.map Prod.fst) 0 = some xs.length) ⟨pl, [], [], none, none, none, rfl, h0, (fun p hp => nomatch hp), (fun p hp => nomatch hp), (fun p hp => nomatch hp), Nat.le_refl _, Nat.le_refl _, rfl⟩ (fun i σ J _ ⟨_, _, _, _, _, _, _, h, _⟩ => h.sql hS) ?_ ?_
  · clear h0
    rintro i y σ J hi ⟨pl, Ps, xs, u8, u9, u10, rfl, h, hI, hG, hP, hl, hxl, hV⟩
    obtain ⟨hlt, rfl⟩ := map_int_at hi
    generalize ns.getD i 0 = cc
    refine ⟨_, rfl, _, rfl, _, rfl, _, rfl, _, rfl, cc, wa, la, wd, lens, m', fa, ls, rfl, h.sql hwa, h.sql hla, hlk, hf.same h.sm, fun J1 l Is hL hIs hGs hIl => ?_⟩
    have s1 := hL.sm
    have h := h.join hL
    have hI : ∀ p ∈ Ps, J1 p.2 = some (.tup p.1.v) := fun p hp => s1 _ _ (hI p hp)
    have hP := hP.same s1
    refine ⟨l, rfl, ⟨_, h.lst 0 rfl⟩, ?_⟩
    refine for_list (K := K) (a := l) (xs := Is.map fun p => V.ref p.2) (fun j σ J => ∃ (pl : Addr) (Ps : List (Item × Addr)) (xs : List Addr) (u9 u10 : Option V), σ = [some (.ref ca), some (.ref wa), some (.ref la), some (.int (m' : Int)), some (.ref fa), some (.int room), some (.ref po), some (.ref pl), some (.int cc), u9, u10, none, none, none] ∧ Hd H [(l, .lst (Is.map fun p => V.ref p.2)), (po, .lst (Ps.map fun p => V.ref p.2)), (pl, .lst (xs.map V.ref))] J ∧ (∀ p ∈ Is, J p.2 = some (.tup p.1.v)) ∧ (∀ p ∈ Ps, J p.2 = some (.tup p.1.v)) ∧ (∀ p ∈ Ps, ItG wd lens.length m' ls.length p.1) ∧ PairsIn J xs ∧ Ps.length ≤ 3 * i + j ∧ xs.length ≤ 3 * i + j ∧ Vl (hsL ls) (Ps.map Prod.fst) 0 = some xs.length) ⟨pl, Ps, xs, _, _, rfl, h, hIs, hI, hG, hP, hl, hxl, hV⟩ (fun j σ J _ ⟨_, _, _, _, _, _, h, _⟩ => h.lst 0 rfl) ?_ ?_
    · clear h hI hP hG hl hxl hV hIs s1 hL
      rintro j y σ J2 hj ⟨pl, Ps, xs, u9, u10, rfl, h, hIs, hI, hG, hP, hl, hxl, hV⟩
      obtain ⟨p, hp', rfl⟩ : ∃ p, Is[j]? = some p ∧ y = V.ref p.2 := by
        rw [List.getElem?_map] at hj
        cases ez : Is[j]? with
        | none => rw [ez] at hj; cases hj
        | some z => rw [ez] at hj; exact ⟨z, rfl, by injection hj with hj; exact hj.symm⟩
      have jl := (List.getElem?_eq_some_iff.mp hp').1
      have mp := List.mem_of_getElem? hp'
      obtain ⟨it, x⟩ := p
      have gi := hGs _ mp
      have ex := hIs _ mp
      have cj : ∀ j, it = .call j → 0 ≤ j ∧ j.toNat < ls.length := fun j e => by rw [e] at gi; exact gi
      refine ⟨_, rfl, _, rfl, _, rfl, _, rfl, pl, x, fa, room, xs, it, ls, rfl, h.lst 2 rfl, hP, (by omega), ex, hf.same h.sm, cj, fun J3 s3 => ?_, fun tk J3 yl ys hy hYs hYl => ?_⟩
      · refine ⟨_, rfl, rfl, _, rfl, iteF ?_⟩
        exact ⟨pl, Ps, xs, _, _, rfl, h.same s3, fun p hp => s3 _ _ (hIs p hp), fun p hp => s3 _ _ (hI p hp), hG, hP.same s3, by omega, by omega, hV⟩
      · have s3 := hy.sm
        have h := h.join hy
        refine ⟨_, rfl, rfl, _, rfl, iteT ?_⟩
        refine ⟨_, rfl, .inl ⟨rfl, _, h.lst 2 rfl⟩, _, rfl, po, _, _, rfl, rfl, h.get 2 rfl, (by rw [List.length_map]; omega), ?_⟩
        have epo := h.get 2 rfl
        have h := h.put (o' := .lst ((Ps ++ [(it, x)]).map fun p => V.ref p.2)) 2 rfl
        rw [List.map_append] at h
        have h := (h.sub (L' := [(yl, .lst (ys.map V.ref)), (l, .lst (Is.map fun p => V.ref p.2)), (po, .lst ((Ps.map fun p => V.ref p.2) ++ ([(it, x)].map fun p => V.ref p.2)))]) (.cons₂ _ (.cons₂ _ (.cons₂ _ (List.nil_sublist _))))).perm (List.perm_append_comm (l₁ := [(yl, HO.lst (ys.map V.ref))]) (l₂ := [(l, .lst (Is.map fun p => V.ref p.2)), (po, .lst ((Ps.map fun p => V.ref p.2) ++ ([(it, x)].map fun p => V.ref p.2)))]))
        refine ⟨_, rfl, yl, Ps ++ [(it, x)], ys, _, _, rfl, by rw [List.map_append]; exact h, fun p hp => tup_put (s3 _ _ (hIs p hp)) epo, fun p hp => ?_, fun p hp => ?_, fun z hz => ?_, by rw [List.length_append]; show Ps.length + 1 ≤ _; omega, by omega, ?_⟩
        · rcases List.mem_append.mp hp with hp | hp
          · exact tup_put (s3 _ _ (hI p hp)) epo
          · cases List.mem_singleton.mp hp; exact tup_put (s3 _ _ ex) epo
        · rcases List.mem_append.mp hp with hp | hp
          · exact hG p hp
          · cases List.mem_singleton.mp hp; exact gi
        · obtain ⟨a, b, e⟩ := hYs z hz
          exact ⟨a, b, tup_put e epo⟩
        · rw [List.map_append, Vl_append _ _ _ _ _ hV]
          show (if takes (hsL ls) it ≤ xs.length then some (xs.length - takes (hsL ls) it + 1) else none) = _
          rw [if_pos tk, hYl]
    · rintro σ J2 ⟨pl, Ps, xs, u9, u10, rfl, h, hIs, hI, hG, hP, hl, hxl, hV⟩
      rw [List.length_map] at hl hxl
      exact ⟨pl, Ps, xs, _, _, _, rfl, h.tl, hI, hG, hP, by omega, by omega, hV⟩
  rintro σ J ⟨pl, Ps, xs, u8, u9, u10, rfl, h, hI, hG, hP, hl, hxl, hV⟩
  rw [List.length_map] at hl hxl
  refine ⟨fun σ' J' => ∃ (Ps : List (Item × Addr)) (xs : List Addr), σ' = [some (.ref ca), some (.ref wa), some (.ref la), some (.int (m' : Int)), some (.ref fa), some (.int room), some (.ref po), some (.ref pl), u8, u9, u10, none, none, none] ∧ Hd H [(po, .lst (Ps.map fun p => V.ref p.2)), (pl, .lst (xs.map V.ref))] J' ∧ (∀ p ∈ Ps, J' p.2 = some (.tup p.1.v)) ∧ (∀ p ∈ Ps, ItG wd lens.length m' ls.length p.1) ∧ PairsIn J' xs ∧ Ps.length ≤ 3 * ns.length + 1 ∧ xs.length ≤ 3 * ns.length + 1 ∧ 1 ≤ xs.length ∧ Vl (hsL ls) (Ps.map Prod.fst) 0 = some xs.length, ?_, ?_⟩
  · refine ⟨_, rfl, (by show 0 ≤ sizeLine; decide), fun e ne => ?_⟩
    have se : Same J (upd J e (.lst [])) := same_upd (Same.refl _) ne
    have ee : upd J e (.lst []) e = some (.lst []) := upd_same
    generalize upd J e (.lst []) = J1 at se ee ⊢
    have h := h.same se
    have hI : ∀ p ∈ Ps, J1 p.2 = some (.tup p.1.v) := fun p hp => se _ _ (hI p hp)
    have hP := hP.same se
    obtain ⟨ds, d1, d2, d3, d4⟩ := pairs_dv (K := K) hP
    refine ⟨.list ds, .list [], .lst (h.lst 1 rfl) d2, .lst (SqL.of ee) .nil, d3, rfl, Nat.le_trans (dep_list d4) (by decide), _, rfl, ?_⟩
    cases xs with
    | cons x0 xs0 =>
      have : (PyData.list ds).eqv (.list []) = false := SeqAt.eqvAll_other_length (by rw [d1]; simp)
      rw [this]
      exact iteF ⟨Ps, x0 :: xs0, rfl, h, hI, hG, hP, by omega, by omega, by rw [List.length_cons]; omega, hV⟩
    | nil =>
      have e0 : ds = [] := List.eq_nil_of_length_eq_zero d1
      subst e0
      have : (PyData.list []).eqv (.list []) = true := SeqAt.eqv_refl _ rfl
      rw [this]
      refine iteT ?_
      refine ⟨_, rfl, .inl ⟨rfl, _, h.lst 0 rfl⟩, (by show 1 ≤ sizeLine; decide), fun t nt => ?_⟩
      have h := h.new (o := .tup [.str "here"]) nt
      have hI : ∀ p ∈ Ps, upd J1 t (.tup [.str "here"]) p.2 = some (.tup p.1.v) := fun p hp => by rw [upd_ne (ne_of_none (hI p hp) nt)]; exact hI p hp
      generalize upd J1 t (.tup [.str "here"]) = J2 at h hI ⊢
      refine ⟨po, _, _, rfl, rfl, h.get 1 rfl, (by rw [List.length_map]; omega), ?_⟩
      have epo := h.get 1 rfl
      have et := tup_put (o := .lst ((Ps ++ [(Item.here, t)]).map fun p => V.ref p.2)) (h.get 0 rfl) epo
      have h := h.tl.put (o' := .lst ((Ps ++ [(Item.here, t)]).map fun p => V.ref p.2)) 0 rfl
      have hI : ∀ p ∈ Ps, upd J2 po (.lst ((Ps ++ [(Item.here, t)]).map fun p => V.ref p.2)) p.2 = some (.tup p.1.v) := fun p hp => tup_put (hI p hp) epo
      have eu : (upd J2 po (.lst ((Ps.map fun p => V.ref p.2) ++ [.ref t]))) = upd J2 po (.lst ((Ps ++ [(Item.here, t)]).map fun p => V.ref p.2)) := by rw [List.map_append]; rfl
      rw [eu]
      generalize upd J2 po (.lst ((Ps ++ [(Item.here, t)]).map fun p => V.ref p.2)) = J3 at h hI et ⊢
      refine ⟨_, rfl, .inl ⟨rfl, _, h.lst 1 rfl⟩, (by show 2 ≤ sizeLine; decide), fun t2 nt2 => ?_⟩
      have h := h.new (o := .tup [.int 1, .int 0]) nt2
      have hI : ∀ p ∈ Ps, upd J3 t2 (.tup [.int 1, .int 0]) p.2 = some (.tup p.1.v) := fun p hp => by rw [upd_ne (ne_of_none (hI p hp) nt2)]; exact hI p hp
      have et : upd J3 t2 (.tup [.int 1, .int 0]) t = some (.tup [.str "here"]) := by rw [upd_ne (ne_of_none et nt2)]; exact et
      generalize upd J3 t2 (.tup [.int 1, .int 0]) = J4 at h hI et ⊢
      refine ⟨pl, _, _, rfl, rfl, h.get 2 rfl, (by show 0 < sizeLine; decide), ?_⟩
      have epl := h.get 2 rfl
      have et2 := tup_put (o := .lst ([t2].map V.ref)) (h.get 0 rfl) epl
      have et := tup_put (o := .lst ([t2].map V.ref)) et epl
      have hI : ∀ p ∈ Ps, upd J4 pl (.lst ([t2].map V.ref)) p.2 = some (.tup p.1.v) := fun p hp => tup_put (hI p hp) epl
      have h := h.tl.put (o' := .lst ([t2].map V.ref)) 1 rfl
      refine ⟨Ps ++ [(Item.here, t)], [t2], rfl, h, fun p hp => ?_, fun p hp => ?_, fun z hz => ?_, by rw [List.length_append]; show Ps.length + 1 ≤ _; omega, by show 1 ≤ _; omega, Nat.le_refl _, ?_⟩
      · rcases List.mem_append.mp hp with hp | hp
        · exact hI p hp
        · cases List.mem_singleton.mp hp; exact et
      · rcases List.mem_append.mp hp with hp | hp
        · exact hG p hp
        · cases List.mem_singleton.mp hp; exact trivial
      · cases List.mem_singleton.mp hz; exact ⟨1, 0, et2⟩
      · rw [List.map_append, Vl_append _ _ _ _ _ hV]; rfl
  clear h hI hG hP hl hxl hV Ps xs
  rintro σ' J1 ⟨Ps, xs, rfl, h, hI, hG, hP, hl, hxl, h1, hV⟩
  refine ⟨_, rfl, pl, _, rfl, .inl (h.lst 1 rfl), _, _, rfl, rfl, ?_⟩
  refine ⟨_, rfl, pl, rfl, ⟨_, h.lst 1 rfl⟩, ?_⟩
  refine for_list (K := K) (a := pl) (xs := xs.map V.ref) (fun i σ J => ∃ (sz dp : Int) (u13 : Option V), σ = [some (.ref ca), some (.ref wa), some (.ref la), some (.int (m' : Int)), some (.ref fa), some (.int room), some (.ref po), some (.ref pl), u8, u9, u10, some (.int sz), some (.int dp), u13] ∧ J = J1) ⟨_, _, _, rfl, rfl⟩ (fun i σ J _ ⟨_, _, _, _, e⟩ => by rw [e]; exact h.lst 1 rfl) ?_ ?_
  · rintro i y σ J hi ⟨sz, dp, u13, rfl, rfl⟩
    obtain ⟨t, mt, rfl⟩ := ref_at hi
    obtain ⟨a, b, e⟩ := hP t mt
    exact ⟨_, rfl, _, rfl, t, _, 0, .int a, rfl, rfl, SqT.of e, rfl, _, _, rfl, rfl, _, rfl, _, rfl, t, _, 1, .int b, rfl, rfl, SqT.of e, rfl, _, _, rfl, _, _, _, rfl, rfl⟩
  rintro σ J ⟨sz, dp, u13, rfl, rfl⟩
  refine ⟨_, rfl, .inl ⟨rfl, _, h.lst 0 rfl⟩, ?_⟩
  refine ⟨(by show 2 ≤ sizeLine; decide), fun t nt => ?_⟩
  have hI : ∀ p ∈ Ps, upd J t (.tup [.str "pair", .str "+"]) p.2 = some (.tup p.1.v) := fun p hp => by rw [upd_ne (ne_of_none (hI p hp) nt)]; exact hI p hp
  have h := h.new (o := .tup [.str "pair", .str "+"]) nt
  generalize upd J t (.tup [.str "pair", .str "+"]) = J2 at h hI ⊢
  refine ⟨(by show 1 ≤ sizeLine; decide), fun e1 ne1 => ?_⟩
  have hI : ∀ p ∈ Ps, upd J2 e1 (.lst [.ref t]) p.2 = some (.tup p.1.v) := fun p hp => by rw [upd_ne (ne_of_none (hI p hp) ne1)]; exact hI p hp
  have h := h.new (o := .lst [.ref t]) ne1
  generalize upd J2 e1 (.lst [.ref t]) = J3 at h hI ⊢
  refine ⟨_, rfl, pl, _, rfl, .inl (h.lst 3 rfl), _, _, rfl, rfl, e1, _, _, rfl, rfl, h.get 0 rfl, (by rw [List.length_map]; omega), (by rw [List.length_map]; omega), (by rw [List.length_map]; show 1 * _ ≤ _; omega), fun r nr => ?_⟩
  rw [List.length_map, show ((xs.length : Int) - 1).toNat = xs.length - 1 by omega, rep_map _ _ (.pair "+")]
  have hI : ∀ p ∈ Ps, upd J3 r (.lst ((List.replicate (xs.length - 1) (Item.pair "+", t)).map fun p => V.ref p.2)) p.2 = some (.tup p.1.v) := fun p hp => by rw [upd_ne (ne_of_none (hI p hp) nr)]; exact hI p hp
  have h := h.new (o := .lst ((List.replicate (xs.length - 1) (Item.pair "+", t)).map fun p => V.ref p.2)) nr
  generalize upd J3 r (.lst ((List.replicate (xs.length - 1) (Item.pair "+", t)).map fun p => V.ref p.2)) = J4 at h hI ⊢
  have epo := h.get 3 rfl
  refine ⟨po, r, _, _, rfl, rfl, epo, h.get 0 rfl, (by rw [List.length_map, List.length_map, List.length_replicate]; omega), ?_⟩
  rw [← List.map_append]
  have et := tup_put (o := .lst ((Ps ++ List.replicate (xs.length - 1) (Item.pair "+", t)).map fun p => V.ref p.2)) (h.get 2 rfl) epo
  have hI : ∀ p ∈ Ps, upd J4 po (.lst ((Ps ++ List.replicate (xs.length - 1) (Item.pair "+", t)).map fun p => V.ref p.2)) p.2 = some (.tup p.1.v) := fun p hp => tup_put (hI p hp) epo
  have h := h.put (o' := .lst ((Ps ++ List.replicate (xs.length - 1) (Item.pair "+", t)).map fun p => V.ref p.2)) 3 rfl
  generalize upd J4 po (.lst ((Ps ++ List.replicate (xs.length - 1) (Item.pair "+", t)).map fun p => V.ref p.2)) = J5 at h hI et ⊢
  refine ⟨_, rfl, _, rfl, _, rfl, (by show 3 ≤ sizeLine; decide), fun tt ntt => ?_⟩
  have h := h.new (o := .tup [.ref po, .int sz, .int dp]) ntt
  refine q _ tt po (Ps ++ List.replicate (xs.length - 1) (Item.pair "+", t)) sz dp (h.nw _ (List.mem_of_getElem? (i := 4) rfl)) h.sm (h.get 0 rfl) (h.get 4 rfl) (fun p hp => ?_) (fun p hp => ?_) (by rw [List.length_append, List.length_replicate]; omega) ?_
  · rcases List.mem_append.mp hp with hp | hp
    · rw [upd_ne (ne_of_none (hI p hp) ntt)]; exact hI p hp
    · cases (List.mem_replicate.mp hp).2
      rw [upd_ne (ne_of_none et ntt)]; exact et
  · rcases List.mem_append.mp hp with hp | hp
    · exact hG p hp
    · cases (List.mem_replicate.mp hp).2
      show ("+" : Str) ∈ FM.signs
      decide
  · rw [List.map_append, List.map_replicate, Vl_append _ _ _ _ _ hV]
    have := Vl_pairs (hsL ls) "+" (xs.length - 1)
    rw [show xs.length - 1 + 1 = xs.length by omega] at this
    exact this
end
end K13
namespace PO
open PySem L2 FM
variable {cl : Int → List Int → Res} {S : SpotD}
def val (cl : Int → List Int → Res) (S : SpotD) (g : F2.Fm) : Int := match F2.ev cl S g with
  | .ok n => n
  | _ => 0
theorem evs_ok : ∀ {gs : List F2.Fm}, (∀ g ∈ gs, ∃ n, F2.ev cl S g = .ok n) → F2.evs cl S (ofL gs) = .ok (gs.map (val cl S))
  | [], _ => rfl
  | g :: r, h => by
    obtain ⟨n, e⟩ := h g List.mem_cons_self
    show F2.evs cl S (.cons g (ofL r)) = _
    rw [F2.evs_cons, e, evs_ok fun x hx => h x (List.mem_cons_of_mem _ hx)]
    show F2.RL.ok (n :: r.map (val cl S)) = _
    rw [List.map_cons, show val cl S g = n by unfold val; rw [e]]
theorem evs_first : ∀ {gs : List F2.Fm} {i : Nat} {e : Res}, (∀ j, j < i → ∃ n, F2.ev cl S (gs.getD j .here) = .ok n) → i < gs.length → F2.ev cl S (gs.getD i .here) = e → (∀ n, e ≠ .ok n) → F2.evs cl S (ofL gs) = .bad e
  | [], _, _, _, hi, _, _ => absurd hi (Nat.not_lt_zero _)
  | g :: r, 0, e, _, _, he, hb => by
    have he : F2.ev cl S g = e := he
    show F2.evs cl S (.cons g (ofL r)) = _
    rw [F2.evs_cons, he]
    cases e with
    | ok n => exact absurd rfl (hb n)
    | nought => rfl
    | outside => rfl
  | g :: r, i + 1, e, h, hi, he, hb => by
    obtain ⟨n, e0⟩ := h 0 (Nat.succ_pos i)
    have e0 : F2.ev cl S g = .ok n := e0
    have q := evs_first (gs := r) (i := i) (fun j hj => h (j + 1) (by omega)) (by have : i + 1 < r.length + 1 := hi; omega) he hb
    show F2.evs cl S (.cons g (ofL r)) = _
    rw [F2.evs_cons, e0, q]
theorem ev_pair {s : Str} {a b : F2.Fm} : F2.ev cl S (.pair s a b) = (match F2.ev cl S a with
    | .ok x => (match F2.ev cl S b with
      | .ok y => (match FM.doneR s x y with
        | some n => .ok n
        | none => .nought)
      | e => e)
    | e => e) := by
  conv => lhs; unfold F2.ev
  all_goals rfl
theorem ev_cho {t a b : F2.Fm} : F2.ev cl S (.cho t a b) = (match F2.ev cl S t with
    | .ok x => if x ≠ 0 then F2.ev cl S a else F2.ev cl S b
    | e => e) := by
  conv => lhs; unfold F2.ev
  all_goals rfl
theorem ev_call {j : Int} {gs : F2.Fms} : F2.ev cl S (.call j gs) = (match F2.evs cl S gs with
    | .ok l => cl j l
    | .bad e => e) := by
  conv => lhs; unfold F2.ev
  all_goals rfl
theorem ev_at {r : Int} {p : F2.Fm} : F2.ev cl S (.at' r p) = (match F2.ev cl S p with
    | .ok q => if 0 ≤ q ∧ q < S.len r then .ok (S.cellAt r q) else .outside
    | e => e) := by
  conv => lhs; unfold F2.ev
  all_goals rfl
theorem made_first {hs : Int → Nat} {it : Item} {gs : List F2.Fm} {i : Nat} {e : Res} (hl : gs.length = takes hs it) (hc : it ≠ .cho) (h : ∀ j, j < i → ∃ n, F2.ev cl S (gs.getD j .here) = .ok n) (hi : i < gs.length) (he : F2.ev cl S (gs.getD i .here) = e) (hb : ∀ n, e ≠ .ok n) : F2.ev cl S (made it gs) = e := by
  cases it with
  | num n => rw [hl] at hi; exact absurd hi (Nat.not_lt_zero _)
  | here => rw [hl] at hi; exact absurd hi (Nat.not_lt_zero _)
  | loc n => rw [hl] at hi; exact absurd hi (Nat.not_lt_zero _)
  | cell n => rw [hl] at hi; exact absurd hi (Nat.not_lt_zero _)
  | shi a b c => rw [hl] at hi; exact absurd hi (Nat.not_lt_zero _)
  | cho => exact absurd rfl hc
  | at' r =>
    have i0 : i = 0 := by rw [hl] at hi; have : i < 1 := hi; omega
    subst i0
    show F2.ev cl S (.at' r (gs.getD 0 .here)) = e
    rw [ev_at, he]
    cases e with
    | ok n => exact absurd rfl (hb n)
    | nought => rfl
    | outside => rfl
  | pair s =>
    show F2.ev cl S (.pair s (gs.getD 0 .here) (gs.getD 1 .here)) = e
    have i0 : i = 0 ∨ i = 1 := by rw [hl] at hi; have : i < 2 := hi; omega
    rw [ev_pair]
    rcases i0 with rfl | rfl
    · rw [he]
      cases e with
      | ok n => exact absurd rfl (hb n)
      | nought => rfl
      | outside => rfl
    · obtain ⟨n, e0⟩ := h 0 (by decide)
      rw [e0, he]
      cases e with
      | ok n => exact absurd rfl (hb n)
      | nought => rfl
      | outside => rfl
  | call j =>
    show F2.ev cl S (.call j (ofL gs)) = e
    rw [ev_call, evs_first h hi he hb]
end PO
namespace PO
open PySem L2 FM
theorem flat_at : ∀ (rows : List (List Int)) (r p : Nat), r < rows.length → p < (rows.getD r []).length → rows.flatten.getD ((((rows.map fun x => (x.length : Int)).take r).sum + (p : Int)).toNat) 0 = (rows.getD r []).getD p 0
  | [], r, p, h, _ => absurd h (Nat.not_lt_zero _)
  | x :: rows, 0, p, _, hp => by
    have hp : p < x.length := hp
    rw [List.take_zero, List.flatten_cons]
    show (x ++ rows.flatten).getD ((0 : Int) + (p : Int)).toNat 0 = x.getD p 0
    rw [show ((0 : Int) + (p : Int)).toNat = p by omega, List.getD_eq_getElem?_getD, List.getElem?_append_left hp, List.getD_eq_getElem?_getD]
  | x :: rows, r + 1, p, h, hp => by
    have h : r + 1 < rows.length + 1 := h
    have q := flat_at rows r p (by omega) hp
    have s0 : 0 ≤ ((rows.map fun x => (x.length : Int)).take r).sum := by
      have : ∀ l : List Int, (∀ v ∈ l, 0 ≤ v) → 0 ≤ l.sum := fun l => by
        induction l with
        | nil => intro _; decide
        | cons a t ih =>
          intro hh
          rw [List.sum_cons]
          have := ih fun v hv => hh v (List.mem_cons_of_mem _ hv)
          have := hh a List.mem_cons_self
          omega
      refine this _ fun v hv => ?_
      obtain ⟨y, _, rfl⟩ := List.mem_map.mp (List.mem_of_mem_take hv)
      exact Int.natCast_nonneg _
    rw [List.map_cons, List.take_succ_cons, List.sum_cons, List.flatten_cons]
    show (x ++ rows.flatten).getD _ 0 = (rows.getD r []).getD p 0
    rw [← q, List.getD_eq_getElem?_getD, List.getElem?_append_right (by omega), List.getD_eq_getElem?_getD]
    congr 2
    omega
theorem sum_flat : ∀ (rows : List (List Int)), ((rows.flatten.length : Nat) : Int) = (rows.map fun x => (x.length : Int)).sum
  | [] => rfl
  | x :: rows => by
    rw [List.flatten_cons, List.length_append, List.map_cons, List.sum_cons, ← sum_flat rows]
    omega
end PO
namespace L2
open PySem PySem.Spec PyProof.Rows
theorem ix_tupK {X : Cx} {K : PySem.W.Frag} (e : X.K = K) : IxR X (rIxT K) := by subst e; exact ix_tup
end L2
namespace K13
open PySem L2 FM PO
def fsOf (ls : List FnL) : List F2.Fn := ls.map fun f => (f.hands, formOf (hsL ls) f.post)
theorem fs_hands {ls : List FnL} : F2.handsOf (fsOf ls) = hsL ls := by
  funext a
  unfold F2.handsOf fsOf hsL
  rw [List.getD_eq_getElem?_getD, List.getElem?_map, List.getD_eq_getElem?_getD]
  cases ls[a.toNat]? <;> rfl
theorem fs_body {ls : List FnL} {j : Int} (h : j.toNat < ls.length) : F2.bodyOf (fsOf ls) j = formOf (hsL ls) (ls.getD j.toNat ⟨0, [], 0, 0⟩).post := by
  unfold F2.bodyOf fsOf
  rw [List.getD_eq_getElem?_getD, List.getElem?_map, List.getD_eq_getElem?_getD, List.getElem?_eq_getElem h]
  rfl
theorem fs_len {ls : List FnL} : (fsOf ls).length = ls.length := List.length_map ..
structure FnOk13 (ls : List FnL) (i : Nat) (f : FnL) : Prop where
  v : Vl (hsL ls) f.post 0 = some 1
  g : ∀ it ∈ f.post, ItG [] 0 f.hands i it
  n : f.post.length ≤ 40
  h : f.hands ≤ 6
def LsOk (ls : List FnL) : Prop := ∀ i, i < ls.length → FnOk13 ls i (ls.getD i ⟨0, [], 0, 0⟩)
theorem itg_ok {ls : List FnL} {wd : List Int} {nr m k : Nat} {S : SpotD} {it : Item} (h : ItG wd nr m k it) (hm : m = S.own.length) (hk : k ≤ ls.length) (hw : ∀ r ∈ wd, S.has r ∧ 1 ≤ S.len r ∧ (S.len r ≠ 1 → 0 ≤ S.place ∧ S.place < S.len r)) (hn : nr ≤ S.lens.length) : ItOk (fsOf ls) k S it := by
  subst hm
  cases it with
  | num n => exact h
  | here => trivial
  | loc i => exact h
  | pair s => exact h
  | cho => trivial
  | call j => exact ⟨h.1, h.2, by rw [fs_len]; have := h.2; omega⟩
  | cell r => exact hw r h
  | shi r b o => exact ⟨⟨h.1, by have := h.2.1; omega⟩, h.2.2⟩
  | at' r => exact ⟨h.1, by have := h.2; omega⟩
theorem ls_bodies {ls : List FnL} (h : LsOk ls) : F2.Bodies (fsOf ls) := by
  intro a S l h0 h1 h2
  rw [fs_len] at h1
  have q := h a.toNat h1
  rw [fs_body h1]
  have hl : (runF (hsL ls) (ls.getD a.toNat ⟨0, [], 0, 0⟩).post []).length = 1 := run_length _ _ [] 1 q.v
  unfold formOf
  have hw := run_wf (fs := fsOf ls) (k := a.toNat) (S := { S with own := l }) (ls.getD a.toNat ⟨0, [], 0, 0⟩).post [] 1 (by rw [fs_hands]; exact q.v) (fun it hi => itg_ok (q.g it hi) (by show _ = l.length; rw [h2, fs_hands]; rfl) (by omega) (fun r hr => nomatch hr) (Nat.zero_le _)) (fun f hf => nomatch hf)
  rw [fs_hands] at hw
  exact hw _ (getD_mem' (by omega))
section
variable {P : Program} {w : World} {K : PySem.W.Frag} {mg : Str → Option Value} {base : Heap}
theorem name_cho {it : Item} (h : it.name = "choice") : it = .cho := by
  cases it with
  | cho => rfl
  | num n => exact absurd h (by show ¬ ("number" : Str) = "choice"; decide)
  | here => exact absurd h (by show ¬ ("here" : Str) = "choice"; decide)
  | loc i => exact absurd h (by show ¬ ("local" : Str) = "choice"; decide)
  | pair s => exact absurd h (by show ¬ ("pair" : Str) = "choice"; decide)
  | call j => exact absurd h (by show ¬ ("call" : Str) = "choice"; decide)
  | cell r => exact absurd h (by show ¬ ("cell" : Str) = "choice"; decide)
  | shi r b o => exact absurd h (by show ¬ ("shifted" : Str) = "choice"; decide)
  | at' r => exact absurd h (by show ¬ ("at" : Str) = "choice"; decide)
theorem itg_mono {wd : List Int} {nr m i k : Nat} {it : Item} (h : ItG [] 0 m i it) (l : i ≤ k) : ItG wd nr m k it := by
  cases it with
  | call j => exact ⟨h.1, by have := h.2; omega⟩
  | num n => exact h
  | here => exact h
  | loc i => exact h
  | pair s => exact h
  | cho => exact h
  | cell r => exact absurd h (List.not_mem_nil)
  | shi r b o => exact absurd h.2.1 (Nat.not_lt_zero _)
  | at' r => exact absurd h.2 (Nat.not_lt_zero _)
theorem row_mem {rows : List (List Int)} {i : Nat} (h : i < rows.length) : rows.getD i [] ∈ rows := by
  rw [List.getD_eq_getElem?_getD, List.getElem?_eq_getElem h]
  exact List.getElem_mem h
structure RowsAt (K : PySem.W.Frag) (H : Hp) (ra : Addr) (rows : List (List Int)) : Prop where
  ex : ∃ Rs : List (List Int × Addr), SqL K H ra (Rs.map fun p => V.ref p.2) ∧ rows = Rs.map Prod.fst ∧ ∀ p ∈ Rs, H p.2 = some (.lst (p.1.map V.int))
theorem RowsAt.same {H H' : Hp} {ra : Addr} {rows : List (List Int)} (h : RowsAt K H ra rows) (s : Same H H') : RowsAt K H' ra rows := by
  obtain ⟨Rs, a, b, d⟩ := h.ex
  exact ⟨Rs, sql_same a s, b, fun p hp => s _ _ (d p hp)⟩
theorem RowsAt.get {H : Hp} {ra : Addr} {rows : List (List Int)} (h : RowsAt K H ra rows) {r : Int} (h0 : 0 ≤ r) (h1 : r.toNat < rows.length) : ∃ (xs : List V) (t : Addr), SqL K H ra xs ∧ atI xs r = some (.ref t) ∧ SqL K H t ((rows.getD r.toNat []).map V.int) := by
  obtain ⟨Rs, a, b, d⟩ := h.ex
  subst b
  rw [List.length_map] at h1
  obtain ⟨n, rfl⟩ : ∃ n : Nat, r = n := ⟨r.toNat, by omega⟩
  rw [Int.toNat_natCast] at *
  refine ⟨_, Rs[n].2, a, atI_nat ?_, ?_⟩
  · rw [List.getElem?_map, List.getElem?_eq_getElem h1]; rfl
  · rw [List.getD_eq_getElem?_getD, List.getElem?_map, List.getElem?_eq_getElem h1]
    exact SqL.of (d _ (List.getElem_mem h1))
structure Cx13 (K : PySem.W.Frag) (H : Hp) (ra oa fa : Addr) (place : Int) (rows : List (List Int)) (wd : List Int) (ls : List FnL) (S : SpotD) : Prop where
  f : LFuns K H fa ls
  o : SqL K H oa (S.own.map V.int)
  p : S.place = place
  l : LsOk ls
  s : FM.SpotOk S
  r : RowsAt K H ra rows
  le : S.lens = rows.map fun x => (x.length : Int)
  ce : S.cells = rows.flatten
  ne : ∀ x ∈ rows, 1 ≤ x.length
  w : ∀ r ∈ wd, 0 ≤ r ∧ r.toNat < rows.length ∧ ((rows.getD r.toNat []).length = 1 ∨ (0 ≤ place ∧ place < ((rows.getD r.toNat []).length : Int)))
theorem Cx13.same {H H' : Hp} {ra oa fa : Addr} {place : Int} {rows : List (List Int)} {wd : List Int} {ls : List FnL} {S : SpotD} (h : Cx13 K H ra oa fa place rows wd ls S) (s : Same H H') : Cx13 K H' ra oa fa place rows wd ls S := ⟨h.f.same s, sql_same h.o s, h.p, h.l, h.s, h.r.same s, h.le, h.ce, h.ne, h.w⟩
theorem len_row {S : SpotD} {rows : List (List Int)} (le : S.lens = rows.map fun x => (x.length : Int)) {r : Int} (h1 : r.toNat < rows.length) : S.len r = ((rows.getD r.toNat []).length : Int) := by
  show S.lens.getD r.toNat 0 = _
  rw [le, List.getD_eq_getElem?_getD, List.getElem?_map, List.getElem?_eq_getElem h1, List.getD_eq_getElem?_getD, List.getElem?_eq_getElem h1]
  rfl
theorem cell_row {S : SpotD} {rows : List (List Int)} (le : S.lens = rows.map fun x => (x.length : Int)) (ce : S.cells = rows.flatten) {r p : Int} (h1 : r.toNat < rows.length) (p0 : 0 ≤ p) (p1 : p < ((rows.getD r.toNat []).length : Int)) : S.cellAt r p = (rows.getD r.toNat []).getD p.toNat 0 := by
  have := flat_at rows r.toNat p.toNat h1 (by omega)
  rw [← this]
  show S.cells.getD ((S.lens.take r.toNat).sum + p).toNat 0 = _
  rw [ce, le, Int.toNat_of_nonneg p0]
theorem Cx13.has {H : Hp} {ra oa fa : Addr} {place : Int} {rows : List (List Int)} {wd : List Int} {ls : List FnL} {S : SpotD} (h : Cx13 K H ra oa fa place rows wd ls S) : ∀ r ∈ wd, S.has r ∧ 1 ≤ S.len r ∧ (S.len r ≠ 1 → 0 ≤ S.place ∧ S.place < S.len r) := fun r hr => by
  obtain ⟨h0, h1, h2⟩ := h.w r hr
  have hl : r.toNat < S.lens.length := by rw [h.le, List.length_map]; exact h1
  rw [len_row h.le h1, h.p]
  have n1 := h.ne _ (row_mem h1)
  refine ⟨⟨h0, hl⟩, by omega, fun nz => ?_⟩
  rcases h2 with e | e
  · exact absurd (by omega) nz
  · exact e
def cellR (it : Item) (row : List Int) (place wv : Int) : Res := match it with
  | .cell _ => if row.length = 1 then .ok (row.getD 0 0) else .ok (row.getD place.toNat 0)
  | .shi _ b o => if 0 ≤ place + b ∧ place + b < row.length then .ok (row.getD (place + b).toNat 0) else .ok o
  | _ => if 0 ≤ wv ∧ wv < row.length then .ok (row.getD wv.toNat 0) else .outside
def spCellDue (K : PySem.W.Frag) : Sp := fun vs H Q _ => ∃ (x pa : Addr) (place wv : Int) (it : Item) (row : List Int), vs = [.ref x, .ref pa, .int place, .int wv] ∧ H x = some (.tup it.v) ∧ ((∃ r, it = .cell r) ∨ (∃ r b o, it = .shi r b o) ∨ ∃ r, it = .at' r) ∧ SqL K H pa (row.map V.int) ∧ 1 ≤ row.length ∧ ((∃ r, it = .cell r) → row.length = 1 ∨ (0 ≤ place ∧ place < row.length)) ∧
  ∀ (H' : Hp) (t : Addr), Same H H' → H' t = some (.tup (resV (cellR it row place wv))) → Q (.ref t) H'
theorem ok_cellDue (d : DefIn K mg "_law_cell_due" s_l_cell_due ["_law_item", "_law_part", "_law_place", "_law_worth"]) (hlen : mg "len" = none) : Ok P w K mg base (CXe P w base) 1 "_law_cell_due" ["_law_item", "_law_part", "_law_place", "_law_worth"] (spCellDue K) := by
  obtain ⟨g, fd, m, F, b⟩ := d
  refine ⟨g, fd, m, F.kp, b, F.okE sc_l_cell_due (fun vs H Q E ⟨_, _, _, _, _, _, e, _⟩ => by rw [e]; rfl) fun cdv A outer s H vs Q E hr h => ?_⟩
  obtain ⟨x, pa, place, wv, it, row, rfl, hx, hk, hp, h1, hc, q⟩ := h
  refine ⟨_, (pss_cons (ps_if (pt_cmpR op_eq (pe_ix ix_tup (pv 0) pe_int (fun _ _ => rfl)) pe_str (nomark _)) (pss_one (ps_ret (pe_tup (pa_cons pe_str (pa_cons (pe_ifExp (pt_cmpR op_eq (pe_callB call_len_seq (by rfl) hlen PySem.boot_len (pa_cons (pv 1) pa_nil)) pe_int (nomark _)) (pe_ix ix_list (pv 1) pe_int (fun _ _ => rfl)) (pe_ix ix_list (pv 1) (pv 2) (fun _ _ => rfl))) pa_nil))))) pss_nil)
      (pss_cons (ps_if (pt_cmpR op_eq (pe_ix ix_tup (pv 0) pe_int (fun _ _ => rfl)) pe_str (nomark _)) (pss_cons (ps_if (pt_chain op_le op_lt pe_int (pe_op op_add (pv 2) (pe_ix ix_tup (pv 0) pe_int (fun _ _ => rfl))) (pe_callB call_len_seq (by rfl) hlen PySem.boot_len (pa_cons (pv 1) pa_nil))) (pss_one (ps_ret (pe_tup (pa_cons pe_str (pa_cons (pe_ix ix_list (pv 1) (pe_op op_add (pv 2) (pe_ix ix_tup (pv 0) pe_int (fun _ _ => rfl))) (fun _ _ => rfl)) pa_nil))))) pss_nil)
      (pss_one (ps_ret (pe_tup (pa_cons pe_str (pa_cons (pe_ix ix_tup (pv 0) pe_int (fun _ _ => rfl)) pa_nil)))))) pss_nil)
      (pss_cons (ps_if (pt_chain op_le op_lt pe_int (pv 3) (pe_callB call_len_seq (by rfl) hlen PySem.boot_len (pa_cons (pv 1) pa_nil))) (pss_one (ps_ret (pe_tup (pa_cons pe_str (pa_cons (pe_ix ix_list (pv 1) (pv 3) (fun _ _ => rfl)) pa_nil))))) pss_nil)
      (pss_one (ps_ret (pe_tup (pa_cons pe_str (pa_cons pe_int pa_nil)))))))), ?_⟩
  have mk : ∀ (n : Int) (t : Addr), H t = none → cellR it row place wv = .ok n → Q (.ref t) (upd H t (.tup [.str "", .int n])) := fun n t nt e => q _ t (same_upd (Same.refl _) nt) (by rw [e]; exact upd_same)
  rcases hk with ⟨r, rfl⟩ | ⟨r, b, o, rfl⟩ | ⟨r, rfl⟩
  · refine ⟨_, rfl, x, _, 0, .str "cell", rfl, rfl, SqT.of hx, rfl, rfl, _, rfl, iteT ?_⟩
    refine ⟨_, rfl, pa, _, rfl, .inl hp, rfl, _, rfl, ?_⟩
    rw [List.length_map, intEq]
    refine ite2 (fun z => ?_) (fun z => ?_)
    · have z : row.length = 1 := by
        have : (row.length : Int) = 1 := by simpa using z
        omega
      exact ⟨_, rfl, pa, _, _, _, rfl, rfl, hp, at_int 0 (by omega) rfl, (by show 2 ≤ sizeLine; decide), fun t nt => mk _ t nt (if_pos z)⟩
    · have z : ¬ row.length = 1 := fun e => z (by rw [e]; rfl)
      have z2 : 0 ≤ place ∧ place < row.length := by
        rcases hc ⟨r, rfl⟩ with e | e
        · exact absurd e z
        · exact e
      exact ⟨_, rfl, _, rfl, pa, _, _, _, rfl, rfl, hp, at_int place.toNat (by omega) (by omega), (by show 2 ≤ sizeLine; decide), fun t nt => mk _ t nt (if_neg z)⟩
  · refine ⟨_, rfl, x, _, 0, .str "shifted", rfl, rfl, SqT.of hx, rfl, rfl, _, rfl, iteF ?_⟩
    refine ⟨_, rfl, x, _, 0, .str "shifted", rfl, rfl, SqT.of hx, rfl, rfl, _, rfl, iteT ?_⟩
    refine ⟨_, rfl, _, rfl, x, _, 2, .int b, rfl, rfl, SqT.of hx, rfl, _, _, rfl, rfl, _, _, rfl, rfl, _, rfl, ?_⟩
    by_cases z : 0 ≤ place + b
    · rw [if_pos (decide_eq_true z)]
      refine ⟨_, rfl, pa, _, rfl, .inl hp, _, _, rfl, rfl, _, rfl, ?_⟩
      rw [List.length_map]
      refine ite2 (fun y => ?_) (fun y => ?_)
      · have y : place + b < row.length := by simpa using y
        exact ⟨_, rfl, _, rfl, _, rfl, x, _, 2, .int b, rfl, rfl, SqT.of hx, rfl, _, _, rfl, rfl, pa, _, _, _, rfl, rfl, hp, at_int (place + b).toNat (by omega) (by omega), (by show 2 ≤ sizeLine; decide), fun t nt => mk _ t nt (if_pos ⟨z, y⟩)⟩
      · have y : ¬ place + b < row.length := by simpa using y
        exact ⟨_, rfl, x, _, 3, .int o, rfl, rfl, SqT.of hx, rfl, (by show 2 ≤ sizeLine; decide), fun t nt => mk _ t nt (if_neg (fun h => y h.2))⟩
    · rw [if_neg (by simp [z])]
      exact ⟨_, rfl, iteF ⟨_, rfl, x, _, 3, .int o, rfl, rfl, SqT.of hx, rfl, (by show 2 ≤ sizeLine; decide), fun t nt => mk _ t nt (if_neg (fun h => z h.1))⟩⟩
  · refine ⟨_, rfl, x, _, 0, .str "at", rfl, rfl, SqT.of hx, rfl, rfl, _, rfl, iteF ?_⟩
    refine ⟨_, rfl, x, _, 0, .str "at", rfl, rfl, SqT.of hx, rfl, rfl, _, rfl, iteF ?_⟩
    refine ⟨_, rfl, _, _, rfl, rfl, _, rfl, ?_⟩
    have no : ¬ (0 ≤ wv ∧ wv < row.length) → ∀ t, H t = none → Q (.ref t) (upd H t (.tup [.str "outside", .int 0])) := fun hn t nt => q _ t (same_upd (Same.refl _) nt) (by rw [show cellR (.at' r) row place wv = .outside from if_neg hn]; exact upd_same)
    by_cases z : 0 ≤ wv
    · rw [if_pos (decide_eq_true z)]
      refine ⟨_, rfl, pa, _, rfl, .inl hp, _, _, rfl, rfl, _, rfl, ?_⟩
      rw [List.length_map]
      refine ite2 (fun y => ?_) (fun y => ?_)
      · have y : wv < row.length := by simpa using y
        exact ⟨_, rfl, _, rfl, pa, _, _, _, rfl, rfl, hp, at_int wv.toNat (by omega) (by omega), (by show 2 ≤ sizeLine; decide), fun t nt => mk _ t nt (if_pos ⟨z, y⟩)⟩
      · have y : ¬ wv < row.length := by simpa using y
        exact ⟨(by show 2 ≤ sizeLine; decide), fun t nt => no (fun h => y h.2) t nt⟩
    · rw [if_neg (by simp [z])]
      exact ⟨_, rfl, iteF ⟨(by show 2 ≤ sizeLine; decide), fun t nt => no (fun h => z h.1) t nt⟩⟩
end
end K13
namespace K13
open PySem L2 FM PO
theorem ev_cell {cl : Int → List Int → Res} {S : SpotD} {r : Int} : F2.ev cl S (.cell r) = (if S.len r = 1 then .ok (S.cellAt r 0) else .ok (S.cellAt r S.place)) := by
  conv => lhs; unfold F2.ev
theorem ev_shi {cl : Int → List Int → Res} {S : SpotD} {r b o : Int} : F2.ev cl S (.shi r b o) = (if 0 ≤ S.place + b ∧ S.place + b < S.len r then .ok (S.cellAt r (S.place + b)) else .ok o) := by
  conv => lhs; unfold F2.ev
section
variable {P : Program} {w : World} {K : PySem.W.Frag} {mg : Str → Option Value} {base : Heap}
abbrev evL (ls : List FnL) (k : Nat) (S : SpotD) (g : F2.Fm) : Res := F2.ev (F2.callK (fsOf ls) S k) S g
def spJoined (K : PySem.W.Frag) (k : Nat) : Sp := fun vs H Q _ => ∃ (x pa ra oa fa : Addr) (place : Int) (it : Item) (Rs : List (F2.Fm × Addr)) (rows : List (List Int)) (wd : List Int) (ls : List FnL) (S : SpotD), vs = [.ref x, .ref pa, .ref ra, .int place, .ref oa, .ref fa] ∧ H x = some (.tup it.v) ∧ Cx13 K H ra oa fa place rows wd ls S ∧ k ≤ ls.length ∧ ItG wd rows.length S.own.length k it ∧ SqL K H pa (Rs.map fun p => V.ref p.2) ∧ (∀ p ∈ Rs, H p.2 = some (.tup (resV (evL ls k S p.1)))) ∧ (∀ p ∈ Rs, F2.WF (fsOf ls) k S p.1) ∧ Rs.length = takes (hsL ls) it ∧
  ∀ (H' : Hp) (t : Addr), Same H H' → H' t = some (.tup (resV (evL ls k S (made it (Rs.map Prod.fst))))) → Q (.ref t) H'
def spResult (K : PySem.W.Frag) (k : Nat) : Sp := fun vs H Q _ => ∃ (pa ra oa fa : Addr) (place : Int) (Ps : List (Item × Addr)) (rows : List (List Int)) (wd : List Int) (ls : List FnL) (S : SpotD) (h : Nat), vs = [.ref pa, .ref ra, .int place, .ref oa, .ref fa] ∧ Cx13 K H ra oa fa place rows wd ls S ∧ k ≤ ls.length ∧ SqL K H pa (Ps.map fun p => V.ref p.2) ∧ (∀ p ∈ Ps, H p.2 = some (.tup p.1.v)) ∧ (∀ p ∈ Ps, ItG wd rows.length S.own.length k p.1) ∧ Ps.length ≤ 200 ∧ Vl (hsL ls) (Ps.map Prod.fst) 0 = some h ∧ 1 ≤ h ∧
  ∀ (H' : Hp) (t : Addr), Same H H' → H' t = some (.tup (resV (evL ls k S (formOf (hsL ls) (Ps.map Prod.fst))))) → Q (.ref t) H'
def prevRs (K : PySem.W.Frag) : Nat → Sp
  | 0 => fun _ _ _ _ => False
  | k + 1 => spResult K k
theorem kind_ne {r : Res} : ∃ (kd : Str) (n : Int), resV r = [.str kd, .int n] ∧ (kd = "" ↔ ∃ m, r = .ok m) := by
  cases r with
  | ok n => exact ⟨"", n, rfl, fun _ => ⟨n, rfl⟩, fun _ => rfl⟩
  | nought => exact ⟨"nought", 0, rfl, fun h => absurd h (by decide), fun ⟨m, e⟩ => by cases e⟩
  | outside => exact ⟨"outside", 0, rfl, fun h => absurd h (by decide), fun ⟨m, e⟩ => by cases e⟩
theorem part_at {Rs : List (F2.Fm × Addr)} {i : Nat} (h : i < Rs.length) : ∃ y, (Rs.map fun p => V.ref p.2)[i]? = some (.ref y) ∧ ((Rs.map Prod.fst).getD i .here, y) ∈ Rs := pair_at h
theorem ok_joined (k : Nat) (d : DefIn K mg "_law_joined" s_l_joined ["_law_item", "_law_parts", "_law_rows", "_law_place", "_law_own", "_law_functions"]) (SG : Ok P w K mg base (CXe P w base) 1 "_law_signed" ["_law_sign", "_law_left", "_law_right_here"] spSigned) (CD : Ok P w K mg base (CXe P w base) 1 "_law_cell_due" ["_law_item", "_law_part", "_law_place", "_law_worth"] (spCellDue K)) (RS : Ok P w K mg base CX0 (2 * k + 1) "_law_result" ["_law_post", "_law_rows", "_law_place", "_law_own", "_law_functions"] (prevRs K k)) :
    Ok P w K mg base CX0 (2 * k + 2) "_law_joined" ["_law_item", "_law_parts", "_law_rows", "_law_place", "_law_own", "_law_functions"] (spJoined K k) := by
  obtain ⟨g, fd, m, F, b⟩ := d
  refine ⟨g, fd, m, F.kp, b, F.ok sc_l_joined (fun vs H Q E ⟨_, _, _, _, _, _, _, _, _, _, _, _, e, _⟩ => by rw [e]; rfl) fun cdv A outer s H vs Q E hr h => ?_⟩
  obtain ⟨x, pa, ra, oa, fa, place, it, Rs, rows, wd, ls, S, rfl, hx, C, hk, hg, hp, hR, hW, hl, q⟩ := h
  have nd := sc_l_joined.nd
  have hrR := hr
  have hr1 : Room 1 _ := hr.mono (by omega)
  have hbd := ls_bodies C.l
  have kin : ∀ p ∈ Rs, ∀ n, evL ls k S p.1 = .ok n → Kin n := fun p hp n e => F2.worth_kin hbd C.s (hW p hp) e
  have SL : (600 : Nat) < sizeLine := by decide
  have gl : (Rs.map Prod.fst).length = takes (hsL ls) it := by rw [List.length_map]; exact hl
  refine ⟨_, (pss_cons (ps_for PassesOwn.never rfl (pi_list (pv 1)) (pg_name (i := 6) nd rfl (Or.inl rfl)) (pss_one (ps_if (pw_and (pt_cmpR op_ne (pe_ix ix_tup (pv 6) pe_int (fun _ _ => rfl)) pe_str (nomark _)) (pw_and1 (pt_cmpR op_ne (pe_ix ix_tup (pv 0) pe_int (fun _ _ => rfl)) pe_str (nomark _)))).pt (pss_one (ps_ret (pv 6))) pss_nil)))
      (pss_cons (ps_if (pt_cmpR op_eq (pe_ix ix_tup (pv 0) pe_int (fun _ _ => rfl)) pe_str (nomark _)) (pss_cons (ps_if (pt_cmpR op_ne (pe_ix ix_tup (pe_ix ix_list (pv 1) pe_int (fun _ _ => rfl)) pe_int (fun _ _ => rfl)) pe_str (nomark _)) (pss_one (ps_ret (pe_ix ix_list (pv 1) pe_int (fun _ _ => rfl)))) pss_nil)
      (pss_one (ps_ret (pe_ifExp (pt_cmpR op_ne (pe_ix ix_tup (pe_ix ix_list (pv 1) pe_int (fun _ _ => rfl)) pe_int (fun _ _ => rfl)) pe_int (nomark _)) (pe_ix ix_list (pv 1) pe_int (fun _ _ => rfl)) (pe_ix ix_list (pv 1) pe_int (fun _ _ => rfl)))))) pss_nil)
      (pss_cons (ps_if (pt_cmpR op_eq (pe_ix ix_tup (pv 0) pe_int (fun _ _ => rfl)) pe_str (nomark _)) (pss_one (ps_ret (pe_tup (pa_cons pe_str (pa_cons (pe_ix ix_tup (pv 0) pe_int (fun _ _ => rfl)) pa_nil))))) pss_nil)
      (pss_cons (ps_if (pt_cmpR op_eq (pe_ix ix_tup (pv 0) pe_int (fun _ _ => rfl)) pe_str (nomark _)) (pss_one (ps_ret (pe_tup (pa_cons pe_str (pa_cons (pv 3) pa_nil))))) pss_nil)
      (pss_cons (ps_if (pt_cmpR op_eq (pe_ix ix_tup (pv 0) pe_int (fun _ _ => rfl)) pe_str (nomark _)) (pss_one (ps_ret (pe_tup (pa_cons pe_str (pa_cons (pe_ix ix_list (pv 4) (pe_ix ix_tup (pv 0) pe_int (fun _ _ => rfl)) (fun _ _ => rfl)) pa_nil))))) pss_nil)
      (pss_cons (ps_if (pt_cmpR op_eq (pe_ix ix_tup (pv 0) pe_int (fun _ _ => rfl)) pe_str (nomark _)) (pss_one (ps_ret (pe_ok SG hr1 (by rfl) passF (pa_cons (pe_ix ix_tup (pv 0) pe_int (fun _ _ => rfl)) (pa_cons (pe_ix ix_tup (pe_ix ix_list (pv 1) pe_int (fun _ _ => rfl)) pe_int (fun _ _ => rfl)) (pa_cons (pe_ix ix_tup (pe_ix ix_list (pv 1) pe_int (fun _ _ => rfl)) pe_int (fun _ _ => rfl)) pa_nil)))))) pss_nil)
      (pss_cons (ps_if (pt_cmpR op_eq (pe_ix ix_tup (pv 0) pe_int (fun _ _ => rfl)) pe_str (nomark _)) (pss_cons (ps_compC (i := 7) ["_law_part"] [none] rfl rfl rfl (pi_list (pv 1)) (fun s3 H3 fp => ⟨pg_name (i := 0) (show ((["_law_part"] : List Str)).Nodup by decide +kernel) rfl (Or.inl rfl), (pe_ix (ix_tupK (K := K) rfl) (pv 0) pe_int (fun _ _ => rfl))⟩) nd rfl (Or.inl rfl))
      (pss_one (ps_ret (pe_ok RS hrR (by rfl) pass0 (pa_cons (pe_ix ix_tup (pe_ix ix_list (pv 5) (pe_ix ix_tup (pv 0) pe_int (fun _ _ => rfl)) (fun _ _ => rfl)) pe_int (fun _ _ => rfl)) (pa_cons (pv 2) (pa_cons (pv 3) (pa_cons (pv 7) (pa_cons (pv 5) pa_nil))))))))) pss_nil)
      (pss_one (ps_ret (pe_ok CD hr1 (by rfl) passF (pa_cons (pv 0) (pa_cons (pe_ix ix_list (pv 2) (pe_ix ix_tup (pv 0) pe_int (fun _ _ => rfl)) (fun _ _ => rfl)) (pa_cons (pv 3) (pa_cons (pe_ifExp (pt_cmpR op_eq (pe_ix ix_tup (pv 0) pe_int (fun _ _ => rfl)) pe_str (nomark _)) (pe_ix ix_tup (pe_ix ix_list (pv 1) pe_int (fun _ _ => rfl)) pe_int (fun _ _ => rfl)) pe_int) pa_nil)))))))))))))), ?_⟩
  refine ⟨_, rfl, pa, rfl, ⟨_, hp⟩, ?_⟩
  refine for_list (K := K) (a := pa) (xs := Rs.map fun p => V.ref p.2) (fun i σ J => ∃ u5, σ = [some (.ref x), some (.ref pa), some (.ref ra), some (.int place), some (.ref oa), some (.ref fa), u5, none] ∧ J = H ∧ (it ≠ .cho → ∀ j, j < i → ∃ n, evL ls k S ((Rs.map Prod.fst).getD j .here) = .ok n)) ⟨none, rfl, rfl, fun _ j hj => absurd hj (Nat.not_lt_zero _)⟩ (fun i σ J _ ⟨_, _, e, _⟩ => by rw [e]; exact hp) ?_ ?_
  · rintro i y σ J hi ⟨u5, rfl, rfl, ha⟩
    have il : i < Rs.length := by have := (List.getElem?_eq_some_iff.mp hi).1; rw [List.length_map] at this; exact this
    obtain ⟨t, a1, a2⟩ := part_at il
    rw [a1] at hi
    cases hi
    have et := hR _ a2
    obtain ⟨kd, n, ek, kk⟩ := kind_ne (r := evL ls k S ((Rs.map Prod.fst).getD i .here))
    rw [ek] at et
    have n1 := it.at0
    refine ⟨_, rfl, t, _, 0, .str kd, rfl, rfl, SqT.of et, rfl, rfl, _, rfl, ?_⟩
    refine ite2 (fun z => ?_) (fun z => iteF ?_)
    · have z : kd ≠ "" := fun e => by rw [e] at z; simp at z
      refine ⟨_, rfl, x, _, 0, _, rfl, rfl, SqT.of hx, n1, rfl, _, rfl, ?_⟩
      refine ite2 (fun y => ?_) (fun y => ?_)
      · have y : it ≠ .cho := fun e => by subst e; exact absurd y (by decide)
        refine ⟨_, rfl, q J t (Same.refl _) ?_⟩
        have : evL ls k S (made it (Rs.map Prod.fst)) = evL ls k S ((Rs.map Prod.fst).getD i .here) := made_first gl y (ha y) (by rw [List.length_map]; exact il) rfl (fun m e => z (kk.mpr ⟨m, e⟩))
        rw [this, ek]
        exact et
      · have y : it = .cho := by
          have y : it.name = "choice" := by
            by_cases e : it.name = "choice"
            · exact e
            · exact absurd (by simpa using e) y
          exact name_cho y
        exact ⟨_, rfl, rfl, fun hn => absurd y hn⟩
    · have z : kd = "" := by
        by_cases e : kd = ""
        · exact e
        · exact absurd (by simpa using e) z
      exact ⟨_, rfl, rfl, fun hn j hj => by
        by_cases e : j = i
        · subst e; exact kk.mp z
        · exact ha hn j (by omega)⟩
  rintro σ J ⟨u5, rfl, rfl, ha⟩
  rw [List.length_map] at ha
  have two : ∀ i, i < Rs.length → ∃ y, (Rs.map fun p => V.ref p.2)[i]? = some (.ref y) ∧ J y = some (.tup (resV (evL ls k S ((Rs.map Prod.fst).getD i .here)))) := fun i hi => let ⟨y, a, b⟩ := part_at hi; ⟨y, a, hR _ b⟩
  have mk : ∀ (n : Int) (t : Addr), J t = none → evL ls k S (made it (Rs.map Prod.fst)) = .ok n → Q (.ref t) (upd J t (.tup [.str "", .int n])) := fun n t nt e => q _ t (same_upd (Same.refl _) nt) (by rw [e]; exact upd_same)
  cases it with
  | cho =>
    obtain ⟨y0, a0, e0⟩ := two 0 (by rw [hl]; show 0 < 3; decide)
    obtain ⟨y1, a1, e1⟩ := two 1 (by rw [hl]; show 1 < 3; decide)
    obtain ⟨y2, a2, e2⟩ := two 2 (by rw [hl]; show 2 < 3; decide)
    have ec : evL ls k S (made .cho (Rs.map Prod.fst)) = (match evL ls k S ((Rs.map Prod.fst).getD 0 .here) with
      | .ok x => if x ≠ 0 then evL ls k S ((Rs.map Prod.fst).getD 1 .here) else evL ls k S ((Rs.map Prod.fst).getD 2 .here)
      | e => e) := ev_cho
    rw [ec] at q
    refine ⟨_, rfl, x, _, 0, .str "choice", rfl, rfl, SqT.of hx, rfl, rfl, _, rfl, iteT ?_⟩
    cases er : evL ls k S ((Rs.map Prod.fst).getD 0 .here) with
    | ok n =>
      rw [er] at e0 q
      have e0 : J y0 = some (.tup [.str "", .int n]) := e0
      refine ⟨_, rfl, pa, _, _, _, rfl, rfl, hp, atI_nat a0, y0, _, 0, .str "", rfl, rfl, SqT.of e0, rfl, rfl, _, rfl, iteNS rfl ?_⟩
      refine ⟨_, rfl, pa, _, _, _, rfl, rfl, hp, atI_nat a0, y0, _, 1, .int n, rfl, rfl, SqT.of e0, rfl, rfl, _, rfl, ?_⟩
      dsimp only at q
      refine ite2 (fun z => ?_) (fun z => ?_)
      · have z : n ≠ 0 := fun e => by rw [e] at z; simp at z
        rw [if_pos z] at q
        exact ⟨_, rfl, pa, _, _, _, rfl, rfl, hp, atI_nat a1, q J y1 (Same.refl _) e1⟩
      · have z : ¬ n ≠ 0 := fun e => z (by simpa using e)
        rw [if_neg z] at q
        exact ⟨_, rfl, pa, _, _, _, rfl, rfl, hp, atI_nat a2, q J y2 (Same.refl _) e2⟩
    | nought =>
      rw [er] at e0 q
      refine ⟨_, rfl, pa, _, _, _, rfl, rfl, hp, atI_nat a0, y0, _, 0, .str "nought", rfl, rfl, SqT.of e0, rfl, rfl, _, rfl, iteT ?_⟩
      exact ⟨_, rfl, pa, _, _, _, rfl, rfl, hp, atI_nat a0, q J y0 (Same.refl _) e0⟩
    | outside =>
      rw [er] at e0 q
      refine ⟨_, rfl, pa, _, _, _, rfl, rfl, hp, atI_nat a0, y0, _, 0, .str "outside", rfl, rfl, SqT.of e0, rfl, rfl, _, rfl, iteT ?_⟩
      exact ⟨_, rfl, pa, _, _, _, rfl, rfl, hp, atI_nat a0, q J y0 (Same.refl _) e0⟩
  | num n =>
    refine ⟨_, rfl, x, _, 0, .str "number", rfl, rfl, SqT.of hx, rfl, rfl, _, rfl, iteF ⟨_, rfl, x, _, 0, .str "number", rfl, rfl, SqT.of hx, rfl, rfl, _, rfl, iteT ?_⟩⟩
    exact ⟨_, rfl, x, _, 1, .int n, rfl, rfl, SqT.of hx, rfl, (by show 2 ≤ sizeLine; decide), fun t nt => mk n t nt rfl⟩
  | here =>
    refine ⟨_, rfl, x, _, 0, .str "here", rfl, rfl, SqT.of hx, rfl, rfl, _, rfl, iteF ⟨_, rfl, x, _, 0, .str "here", rfl, rfl, SqT.of hx, rfl, rfl, _, rfl, iteF ⟨_, rfl, x, _, 0, .str "here", rfl, rfl, SqT.of hx, rfl, rfl, _, rfl, iteT ?_⟩⟩⟩
    exact ⟨_, rfl, (by show 2 ≤ sizeLine; decide), fun t nt => mk place t nt (by show Res.ok S.place = _; rw [C.p])⟩
  | loc i =>
    obtain ⟨n, rfl⟩ : ∃ n : Nat, i = n := ⟨i.toNat, by have := hg.1; omega⟩
    refine ⟨_, rfl, x, _, 0, .str "local", rfl, rfl, SqT.of hx, rfl, rfl, _, rfl, iteF ⟨_, rfl, x, _, 0, .str "local", rfl, rfl, SqT.of hx, rfl, rfl, _, rfl, iteF ⟨_, rfl, x, _, 0, .str "local", rfl, rfl, SqT.of hx, rfl, rfl, _, rfl, iteF ⟨_, rfl, x, _, 0, .str "local", rfl, rfl, SqT.of hx, rfl, rfl, _, rfl, iteT ?_⟩⟩⟩⟩
    exact ⟨_, rfl, _, rfl, x, _, 1, .int (n : Int), rfl, rfl, SqT.of hx, rfl, oa, _, _, _, rfl, rfl, C.o, at_int n hg.2 rfl, (by show 2 ≤ sizeLine; decide), fun t nt => mk _ t nt rfl⟩
  | pair sg =>
    have hc : (Item.pair sg) ≠ .cho := fun e => by cases e
    obtain ⟨y0, a0, e0⟩ := two 0 (by rw [hl]; show 0 < 2; decide)
    obtain ⟨y1, a1, e1⟩ := two 1 (by rw [hl]; show 1 < 2; decide)
    obtain ⟨v0, w0⟩ := ha hc 0 (by rw [hl]; show 0 < 2; decide)
    obtain ⟨v1, w1⟩ := ha hc 1 (by rw [hl]; show 1 < 2; decide)
    rw [w0] at e0
    rw [w1] at e1
    have k0 : Kin v0 := by
      obtain ⟨_, _, m0⟩ := part_at (Rs := Rs) (i := 0) (by rw [hl]; show 0 < 2; decide)
      exact kin _ m0 v0 w0
    have k1 : Kin v1 := by
      obtain ⟨_, _, m1⟩ := part_at (Rs := Rs) (i := 1) (by rw [hl]; show 1 < 2; decide)
      exact kin _ m1 v1 w1
    have ec : evL ls k S (made (.pair sg) (Rs.map Prod.fst)) = sgR sg v0 v1 := by
      show F2.ev _ S (.pair sg _ _) = _
      have w0' : F2.ev (F2.callK (fsOf ls) S k) S ((Rs.map Prod.fst).getD 0 .here) = .ok v0 := w0
      have w1' : F2.ev (F2.callK (fsOf ls) S k) S ((Rs.map Prod.fst).getD 1 .here) = .ok v1 := w1
      rw [ev_pair, w0', w1']
      rfl
    rw [ec] at q
    refine ⟨_, rfl, x, _, 0, .str "pair", rfl, rfl, SqT.of hx, rfl, rfl, _, rfl, iteF ⟨_, rfl, x, _, 0, .str "pair", rfl, rfl, SqT.of hx, rfl, rfl, _, rfl, iteF ⟨_, rfl, x, _, 0, .str "pair", rfl, rfl, SqT.of hx, rfl, rfl, _, rfl, iteF ⟨_, rfl, x, _, 0, .str "pair", rfl, rfl, SqT.of hx, rfl, rfl, _, rfl, iteF ⟨_, rfl, x, _, 0, .str "pair", rfl, rfl, SqT.of hx, rfl, rfl, _, rfl, iteT ?_⟩⟩⟩⟩⟩
    exact ⟨_, rfl, x, _, 1, .str sg, rfl, rfl, SqT.of hx, rfl, _, rfl, pa, _, _, _, rfl, rfl, hp, atI_nat a0, y0, _, 1, .int v0, rfl, rfl, SqT.of e0, rfl, _, rfl, pa, _, _, _, rfl, rfl, hp, atI_nat a1, y1, _, 1, .int v1, rfl, rfl, SqT.of e1, rfl, sg, v0, v1, rfl, hg, k0, k1, q⟩
  | call j =>
    have hc : (Item.call j) ≠ .cho := fun e => by cases e
    cases k with
    | zero => exact absurd hg.2 (Nat.not_lt_zero _)
    | succ k =>
      have all : ∀ gg ∈ Rs.map Prod.fst, ∃ n, F2.ev (F2.callK (fsOf ls) S (k + 1)) S gg = .ok n := fun gg hgg => by
        obtain ⟨i, hi, e⟩ := List.getElem_of_mem hgg
        rw [List.length_map] at hi
        have := ha hc i hi
        rw [List.getD_eq_getElem?_getD, List.getElem?_eq_getElem (by rw [List.length_map]; exact hi), e] at this
        exact this
      have jl : j.toNat < ls.length := by have := hg.2; omega
      have ec : evL ls (k + 1) S (made (.call j) (Rs.map Prod.fst)) = evL ls k { S with own := (Rs.map Prod.fst).map (val (F2.callK (fsOf ls) S (k + 1)) S) } (formOf (hsL ls) (ls.getD j.toNat ⟨0, [], 0, 0⟩).post) := by
        show F2.ev _ S (.call j (ofL _)) = _
        rw [ev_call, evs_ok all]
        generalize (Rs.map Prod.fst).map (val (F2.callK (fsOf ls) S (k + 1)) S) = L
        show F2.ev (F2.callK (fsOf ls) S k) { S with own := L } (F2.bodyOf (fsOf ls) j) = F2.ev (F2.callK (fsOf ls) { S with own := L } k) { S with own := L } _
        rw [fs_body jl]
        exact congrArg (fun c => F2.ev c { S with own := L } (formOf (hsL ls) (ls.getD j.toNat ⟨0, [], 0, 0⟩).post)) (F2.callK_own (fs := fsOf ls) (S := S) (m := L) k).symm
      rw [ec] at q
      refine ⟨_, rfl, x, _, 0, .str "call", rfl, rfl, SqT.of hx, rfl, rfl, _, rfl, iteF ⟨_, rfl, x, _, 0, .str "call", rfl, rfl, SqT.of hx, rfl, rfl, _, rfl, iteF ⟨_, rfl, x, _, 0, .str "call", rfl, rfl, SqT.of hx, rfl, rfl, _, rfl, iteF ⟨_, rfl, x, _, 0, .str "call", rfl, rfl, SqT.of hx, rfl, rfl, _, rfl, iteF ⟨_, rfl, x, _, 0, .str "call", rfl, rfl, SqT.of hx, rfl, rfl, _, rfl, iteF ⟨_, rfl, x, _, 0, .str "call", rfl, rfl, SqT.of hx, rfl, rfl, _, rfl, iteT ?_⟩⟩⟩⟩⟩⟩
      refine ⟨_, rfl, pa, rfl, ⟨_, hp⟩, _, rfl, fun D nD => ?_⟩
      have h : Hd J [(D, .lst ((((Rs.map Prod.fst).take 0).map (val (F2.callK (fsOf ls) S (k + 1)) S)).map V.int))] (upd J D (.lst [])) := Hd.base.new nD
      refine comp_list (K := K) (a := pa) (D := D) (xs := Rs.map fun p => V.ref p.2) (fun i σ J' => ∃ u, σ = [u] ∧ Hd J [(D, .lst ((((Rs.map Prod.fst).take i).map (val (F2.callK (fsOf ls) S (k + 1)) S)).map V.int))] J') ⟨none, rfl, h⟩ (fun i σ J' _ ⟨_, _, h⟩ => h.sql hp) ?_ ?_
      · clear h
        rintro i y σ J' hi ⟨u, rfl, h⟩
        have il : i < Rs.length := by have := (List.getElem?_eq_some_iff.mp hi).1; rw [List.length_map] at this; exact this
        obtain ⟨t, a1, a2⟩ := part_at il
        rw [a1] at hi
        cases hi
        obtain ⟨n, wn⟩ := ha hc i il
        have et := hR _ a2
        rw [wn] at et
        have et : J' t = some (.tup [.str "", .int n]) := h.sm _ _ et
        have tl := C.l j.toNat jl
        have h6 := tl.h
        have hl6 : Rs.length ≤ 6 := by rw [hl]; exact h6
        refine ⟨_, rfl, t, _, 1, .int n, rfl, rfl, SqT.of et, rfl, _, h.get 0 rfl, (by rw [List.length_map, List.length_map, List.length_take]; omega), _, rfl, ?_⟩
        have es : (((Rs.map Prod.fst).take (i + 1)).map (val (F2.callK (fsOf ls) S (k + 1)) S)).map V.int = (((Rs.map Prod.fst).take i).map (val (F2.callK (fsOf ls) S (k + 1)) S)).map V.int ++ [.int n] := by
          have il' : i < (Rs.map Prod.fst).length := by rw [List.length_map]; exact il
          rw [List.take_add_one, List.getElem?_eq_getElem il', List.map_append, List.map_append]
          have : val (F2.callK (fsOf ls) S (k + 1)) S (Rs.map Prod.fst)[i] = n := by
            rw [List.getD_eq_getElem?_getD, List.getElem?_eq_getElem il'] at wn
            unfold val
            have wn : F2.ev (F2.callK (fsOf ls) S (k + 1)) S (Rs.map Prod.fst)[i] = .ok n := wn
            rw [wn]
          show _ ++ [V.int (val _ _ (Rs.map Prod.fst)[i])] = _
          rw [this]
        rw [es]
        exact h.put 0 rfl
      clear h
      rintro σ J' ⟨u, rfl, h⟩
      have e0 : (Rs.map fun p => V.ref p.2).length = (Rs.map Prod.fst).length := by rw [List.length_map, List.length_map]
      rw [e0, List.take_length] at h
      obtain ⟨xs, t, b1, b2, b3⟩ := (C.f.same h.sm).get hg.1 jl
      obtain ⟨pb, Ps, c1, c2, c3, c4⟩ := b3
      have tl := C.l j.toNat jl
      have own_len : ((Rs.map Prod.fst).map (val (F2.callK (fsOf ls) S (k + 1)) S)).length = (ls.getD j.toNat ⟨0, [], 0, 0⟩).hands := by rw [List.length_map, List.length_map, hl]; rfl
      have own_kin : ∀ v ∈ (Rs.map Prod.fst).map (val (F2.callK (fsOf ls) S (k + 1)) S), Kin v := fun v hv => by
        obtain ⟨gg, hgg, rfl⟩ := List.mem_map.mp hv
        obtain ⟨n, e⟩ := all gg hgg
        obtain ⟨p, hp', rfl⟩ := List.mem_map.mp hgg
        unfold val
        rw [e]
        exact kin p hp' n e
      have hx' := h.sm _ _ hx
      refine ⟨_, rfl, _, rfl, x, _, 1, .int j, rfl, rfl, SqT.of hx', rfl, fa, _, _, _, rfl, rfl, b1, b2, t, _, 1, .ref pb, rfl, rfl, SqT.of c1, rfl, _, rfl, _, rfl, _, rfl, _, rfl, ?_⟩
      refine ⟨pb, ra, D, fa, place, Ps, rows, wd, ls, { S with own := (Rs.map Prod.fst).map (val (F2.callK (fsOf ls) S (k + 1)) S) }, 1, rfl, ⟨C.f.same h.sm, h.lst 0 rfl, C.p, C.l, F2.SpotOk.hand C.s own_kin, C.r.same h.sm, C.le, C.ce, C.ne, C.w⟩, by omega, SqL.of c2, c4, (fun p hp => ?_), ?_, (by rw [← c3]; exact tl.v), Nat.le_refl _, fun J2 t2 s2 e2 => q J2 t2 (h.sm.trans s2) (by rw [c3]; exact e2)⟩
      · have g1 := tl.g p.1 (by rw [c3]; exact List.mem_map_of_mem hp)
        show ItG wd rows.length ((Rs.map Prod.fst).map _).length k p.1
        rw [own_len]
        exact itg_mono g1 (by have := hg.2; omega)
      · have := tl.n
        rw [c3, List.length_map] at this
        omega
  | cell r =>
    obtain ⟨h0, h1, h2⟩ := C.w r hg
    obtain ⟨xs, t, b1, b2, b3⟩ := C.r.get h0 h1
    have n1 := C.ne _ (row_mem h1)
    have ec : evL ls k S (made (.cell r) (Rs.map Prod.fst)) = cellR (.cell r) (rows.getD r.toNat []) place 0 := by
      show F2.ev _ S (.cell r) = _
      rw [ev_cell, len_row C.le h1]
      unfold cellR
      dsimp only
      by_cases z : (rows.getD r.toNat []).length = 1
      · rw [if_pos (by omega), if_pos z, cell_row C.le C.ce h1 (Int.le_refl 0) (by omega)]
        rfl
      · have z2 : 0 ≤ place ∧ place < ((rows.getD r.toNat []).length : Int) := by
          rcases h2 with e | e
          · exact absurd e z
          · exact e
        rw [if_neg (by omega), if_neg z, C.p, cell_row C.le C.ce h1 z2.1 z2.2]
    rw [ec] at q
    refine ⟨_, rfl, x, _, 0, .str "cell", rfl, rfl, SqT.of hx, rfl, rfl, _, rfl, iteF ⟨_, rfl, x, _, 0, .str "cell", rfl, rfl, SqT.of hx, rfl, rfl, _, rfl, iteF ⟨_, rfl, x, _, 0, .str "cell", rfl, rfl, SqT.of hx, rfl, rfl, _, rfl, iteF ⟨_, rfl, x, _, 0, .str "cell", rfl, rfl, SqT.of hx, rfl, rfl, _, rfl, iteF ⟨_, rfl, x, _, 0, .str "cell", rfl, rfl, SqT.of hx, rfl, rfl, _, rfl, iteF ⟨_, rfl, x, _, 0, .str "cell", rfl, rfl, SqT.of hx, rfl, rfl, _, rfl, iteF ?_⟩⟩⟩⟩⟩⟩
    exact ⟨_, rfl, _, rfl, _, rfl, x, _, 1, .int r, rfl, rfl, SqT.of hx, rfl, ra, _, _, _, rfl, rfl, b1, b2, _, rfl, _, rfl, x, _, 0, .str "cell", rfl, rfl, SqT.of hx, rfl, rfl, _, rfl, iteF ⟨x, t, place, 0, .cell r, _, rfl, hx, .inl ⟨r, rfl⟩, b3, n1, fun _ => h2, q⟩⟩
  | shi r b o =>
    obtain ⟨h0, h1, h2⟩ := hg
    obtain ⟨xs, t, b1, b2, b3⟩ := C.r.get h0 h1
    have n1 := C.ne _ (row_mem h1)
    have ec : evL ls k S (made (.shi r b o) (Rs.map Prod.fst)) = cellR (.shi r b o) (rows.getD r.toNat []) place 0 := by
      show F2.ev _ S (.shi r b o) = _
      rw [ev_shi, len_row C.le h1, C.p]
      unfold cellR
      dsimp only
      by_cases z : 0 ≤ place + b ∧ place + b < ((rows.getD r.toNat []).length : Int)
      · rw [if_pos z, if_pos z, cell_row C.le C.ce h1 z.1 z.2]
      · rw [if_neg z, if_neg z]
    rw [ec] at q
    refine ⟨_, rfl, x, _, 0, .str "shifted", rfl, rfl, SqT.of hx, rfl, rfl, _, rfl, iteF ⟨_, rfl, x, _, 0, .str "shifted", rfl, rfl, SqT.of hx, rfl, rfl, _, rfl, iteF ⟨_, rfl, x, _, 0, .str "shifted", rfl, rfl, SqT.of hx, rfl, rfl, _, rfl, iteF ⟨_, rfl, x, _, 0, .str "shifted", rfl, rfl, SqT.of hx, rfl, rfl, _, rfl, iteF ⟨_, rfl, x, _, 0, .str "shifted", rfl, rfl, SqT.of hx, rfl, rfl, _, rfl, iteF ⟨_, rfl, x, _, 0, .str "shifted", rfl, rfl, SqT.of hx, rfl, rfl, _, rfl, iteF ?_⟩⟩⟩⟩⟩⟩
    exact ⟨_, rfl, _, rfl, _, rfl, x, _, 1, .int r, rfl, rfl, SqT.of hx, rfl, ra, _, _, _, rfl, rfl, b1, b2, _, rfl, _, rfl, x, _, 0, .str "shifted", rfl, rfl, SqT.of hx, rfl, rfl, _, rfl, iteF ⟨x, t, place, 0, .shi r b o, _, rfl, hx, .inr (.inl ⟨r, b, o, rfl⟩), b3, n1, (fun ⟨_, e⟩ => by cases e), q⟩⟩
  | at' r =>
    have hc : (Item.at' r) ≠ .cho := fun e => by cases e
    obtain ⟨h0, h1⟩ := hg
    obtain ⟨xs, t, b1, b2, b3⟩ := C.r.get h0 h1
    have n1 := C.ne _ (row_mem h1)
    obtain ⟨y0, a0, e0⟩ := two 0 (by rw [hl]; show 0 < 1; decide)
    obtain ⟨v0, w0⟩ := ha hc 0 (by rw [hl]; show 0 < 1; decide)
    rw [w0] at e0
    have ec : evL ls k S (made (.at' r) (Rs.map Prod.fst)) = cellR (.at' r) (rows.getD r.toNat []) place v0 := by
      show F2.ev _ S (.at' r _) = _
      have w0' : F2.ev (F2.callK (fsOf ls) S k) S ((Rs.map Prod.fst).getD 0 .here) = .ok v0 := w0
      rw [ev_at, w0']
      show (if 0 ≤ v0 ∧ v0 < S.len r then Res.ok (S.cellAt r v0) else .outside) = _
      rw [len_row C.le h1]
      unfold cellR
      dsimp only
      by_cases z : 0 ≤ v0 ∧ v0 < ((rows.getD r.toNat []).length : Int)
      · rw [if_pos z, if_pos z, cell_row C.le C.ce h1 z.1 z.2]
      · rw [if_neg z, if_neg z]
    rw [ec] at q
    refine ⟨_, rfl, x, _, 0, .str "at", rfl, rfl, SqT.of hx, rfl, rfl, _, rfl, iteF ⟨_, rfl, x, _, 0, .str "at", rfl, rfl, SqT.of hx, rfl, rfl, _, rfl, iteF ⟨_, rfl, x, _, 0, .str "at", rfl, rfl, SqT.of hx, rfl, rfl, _, rfl, iteF ⟨_, rfl, x, _, 0, .str "at", rfl, rfl, SqT.of hx, rfl, rfl, _, rfl, iteF ⟨_, rfl, x, _, 0, .str "at", rfl, rfl, SqT.of hx, rfl, rfl, _, rfl, iteF ⟨_, rfl, x, _, 0, .str "at", rfl, rfl, SqT.of hx, rfl, rfl, _, rfl, iteF ?_⟩⟩⟩⟩⟩⟩
    exact ⟨_, rfl, _, rfl, _, rfl, x, _, 1, .int r, rfl, rfl, SqT.of hx, rfl, ra, _, _, _, rfl, rfl, b1, b2, _, rfl, _, rfl, x, _, 0, .str "at", rfl, rfl, SqT.of hx, rfl, rfl, _, rfl, iteT ⟨_, rfl, pa, _, _, _, rfl, rfl, hp, atI_nat a0, y0, _, 1, .int v0, rfl, rfl, SqT.of e0, rfl, x, t, place, v0, .at' r, _, rfl, hx, .inr (.inr ⟨r, rfl⟩), b3, n1, (fun ⟨_, e⟩ => by cases e), q⟩⟩
theorem ok_result_at (k : Nat) (d : DefIn K mg "_law_result" s_l_result ["_law_post", "_law_rows", "_law_place", "_law_own", "_law_functions"]) (hlen : mg "len" = none) (TK : Ok P w K mg base (CXe P w base) 1 "_law_takes" ["_law_item", "_law_functions"] (spTakes K)) (JO : Ok P w K mg base CX0 (2 * k + 2) "_law_joined" ["_law_item", "_law_parts", "_law_rows", "_law_place", "_law_own", "_law_functions"] (spJoined K k)) :
    Ok P w K mg base CX0 (2 * k + 3) "_law_result" ["_law_post", "_law_rows", "_law_place", "_law_own", "_law_functions"] (spResult K k) := by
  obtain ⟨g, fd, m, F, b⟩ := d
  refine ⟨g, fd, m, F.kp, b, F.ok sc_l_result (fun vs H Q E ⟨_, _, _, _, _, _, _, _, _, _, _, e, _⟩ => by rw [e]; rfl) fun cdv A outer s H vs Q E hr h => ?_⟩
  obtain ⟨pa, ra, oa, fa, place, Ps, rows, wd, ls, S, hh, rfl, C, hk, hp, hI, hG, hPl, hV, h1, q⟩ := h
  have nd := sc_l_result.nd
  have hrJ := hr
  have hr1 : Room 1 _ := hr.mono (by omega)
  have SL : (600 : Nat) < sizeLine := by decide
  refine ⟨_, (pss_cons (ps_set (i := 5) nd rfl (Or.inl rfl) (pe_lst pa_nil))
      (pss_cons (ps_for PassesOwn.never rfl (pi_list (pv 0)) (pg_name (i := 6) nd rfl (Or.inl rfl)) (pss_cons (ps_set (i := 7) nd rfl (Or.inl rfl) (pe_ok TK hr1 (by rfl) passF (pa_cons (pv 6) (pa_cons (pv 4) pa_nil))))
      (pss_cons (ps_set (i := 8) nd rfl (Or.inl rfl) (pe_slice sl_list (pv 5) (po_some (pe_op op_sub (pe_callB call_len_seq (by rfl) hlen PySem.boot_len (pa_cons (pv 5) pa_nil)) (pv 7))) po_none))
      (pss_cons (ps_set (i := 5) nd rfl (Or.inl rfl) (pe_slice sl_list (pv 5) po_none (po_some (pe_op op_sub (pe_callB call_len_seq (by rfl) hlen PySem.boot_len (pa_cons (pv 5) pa_nil)) (pv 7)))))
      (pss_one (ps_expr (pe_bm PySem.F.plainAttrs_list PySem.F.slot_list_append PySem.F.type_list_append mt_append (pv 5) (pa_cons (pe_hide (pe_ok JO hrJ (by rfl) pass0 (pa_cons (pv 6) (pa_cons (pv 8) (pa_cons (pv 1) (pa_cons (pv 2) (pa_cons (pv 3) (pa_cons (pv 4) pa_nil)))))))) pa_nil))))))))
      (pss_one (ps_ret (pe_ix ix_list (pv 5) pe_int (fun _ _ => rfl)))))), ?_⟩
  refine ⟨(by show 0 ≤ sizeLine; decide), fun pl npl => ?_⟩
  have h0 : Hd H [(pl, .lst (([] : List (F2.Fm × Addr)).map fun p => V.ref p.2))] (upd H pl (.lst [])) := Hd.base.new npl
  refine ⟨_, rfl, pa, rfl, ⟨_, h0.sql hp⟩, ?_⟩
  refine for_list (K := K) (a := pa) (xs := Ps.map fun p => V.ref p.2) (fun i σ J => ∃ (B : Hp) (pl : Addr) (Qs : List (F2.Fm × Addr)) (u5 u6 u7 : Option V), σ = [some (.ref pa), some (.ref ra), some (.int place), some (.ref oa), some (.ref fa), some (.ref pl), u5, u6, u7] ∧ Same H B ∧ Hd B [(pl, .lst (Qs.map fun p => V.ref p.2))] J ∧ (∀ p ∈ Qs, B p.2 = some (.tup (resV (evL ls k S p.1)))) ∧ (∀ p ∈ Qs, F2.WF (fsOf ls) k S p.1) ∧ Qs.length ≤ i ∧ Vl (hsL ls) ((Ps.drop i).map Prod.fst) Qs.length = some hh ∧ runF (hsL ls) (Ps.map Prod.fst) [] = runF (hsL ls) ((Ps.drop i).map Prod.fst) (Qs.map Prod.fst)) ⟨H, pl, [], none, none, none, rfl, Same.refl _, h0, (fun p hp => nomatch hp), (fun p hp => nomatch hp), Nat.le_refl _, hV, rfl⟩ (fun i σ J _ ⟨_, _, _, _, _, _, _, sB, h, _⟩ => sql_same hp (sB.trans h.sm)) ?_ ?_
  · clear h0
    rintro i y σ J hi ⟨B, pl, Qs, u5, u6, u7, rfl, sB, h, hA, hW, hl, hV, er⟩
    obtain ⟨p, hp', rfl⟩ : ∃ p, Ps[i]? = some p ∧ y = V.ref p.2 := by
      rw [List.getElem?_map] at hi
      cases ez : Ps[i]? with
      | none => rw [ez] at hi; cases hi
      | some z => rw [ez] at hi; exact ⟨z, rfl, by injection hi with hi; exact hi.symm⟩
    have il := (List.getElem?_eq_some_iff.mp hp').1
    have mp := List.mem_of_getElem? hp'
    have ed : Ps.drop i = p :: Ps.drop (i + 1) := by
      rw [List.drop_eq_getElem_cons il, (List.getElem?_eq_some_iff.mp hp').2]
    rw [ed, List.map_cons] at er hV
    obtain ⟨it, x⟩ := p
    have gi := hG _ mp
    have sJ := sB.trans h.sm
    have hx : J x = some (.tup it.v) := sJ _ _ (hI _ mp)
    have cj : ∀ j, it = .call j → 0 ≤ j ∧ j.toNat < ls.length := fun j e => by
      rw [e] at gi
      exact ⟨gi.1, by have := gi.2; omega⟩
    have hV : (if takes (hsL ls) it ≤ Qs.length then Vl (hsL ls) ((Ps.drop (i + 1)).map Prod.fst) (Qs.length - takes (hsL ls) it + 1) else none) = some hh := hV
    have tl : takes (hsL ls) it ≤ Qs.length := by
      by_cases z : takes (hsL ls) it ≤ Qs.length
      · exact z
      · rw [if_neg z] at hV; cases hV
    rw [if_pos tl] at hV
    refine ⟨_, rfl, _, rfl, x, fa, it, ls, rfl, hx, C.f.same sJ, cj, ?_⟩
    have k0 : (0 : Int) ≤ (Qs.length : Int) - (takes (hsL ls) it : Nat) := by omega
    have kn : ((Qs.length : Int) - (takes (hsL ls) it : Nat)).toNat = Qs.length - takes (hsL ls) it := by omega
    refine ⟨_, rfl, _, rfl, pl, _, rfl, .inl (h.lst 0 rfl), _, rfl, _, _, rfl, rfl, _, rfl, pl, _, rfl, h.lst 0 rfl, fun e1 ne1 => ?_⟩
    rw [List.length_map, cutV_dropV k0, kn, ← List.map_drop]
    have h := h.new (o := .lst ((Qs.drop (Qs.length - takes (hsL ls) it)).map fun p => V.ref p.2)) ne1
    generalize upd J e1 (.lst ((Qs.drop (Qs.length - takes (hsL ls) it)).map fun p => V.ref p.2)) = J1 at h ⊢
    refine ⟨_, rfl, _, rfl, pl, _, rfl, .inl (h.lst 1 rfl), _, rfl, _, _, rfl, rfl, _, rfl, pl, _, rfl, h.lst 1 rfl, fun e2 ne2 => ?_⟩
    rw [List.length_map, cutV_takeV k0, kn, ← List.map_take]
    have h2 : Hd J1 [(e2, .lst ((Qs.take (Qs.length - takes (hsL ls) it)).map fun p => V.ref p.2))] (upd J1 e2 (.lst ((Qs.take (Qs.length - takes (hsL ls) it)).map fun p => V.ref p.2))) := Hd.base.new ne2
    generalize upd J1 e2 (.lst ((Qs.take (Qs.length - takes (hsL ls) it)).map fun p => V.ref p.2)) = J2 at h2 ⊢
    have sJ1 := sB.trans h.sm
    refine ⟨_, rfl, .inl ⟨rfl, _, h2.lst 0 rfl⟩, hide_at h2 fun B' sB' => ?_⟩
    refine ⟨_, rfl, _, rfl, _, rfl, _, rfl, _, rfl, _, rfl, x, e1, ra, oa, fa, place, it, Qs.drop (Qs.length - takes (hsL ls) it), rows, wd, ls, S, rfl, sB' _ _ (sJ1 _ _ (hI _ mp)), C.same (sJ1.trans sB'), hk, gi, sql_same (h.lst 0 rfl) sB', (fun p hp => sB' _ _ (h.sm _ _ (hA p (List.mem_of_mem_drop hp)))), (fun p hp => hW p (List.mem_of_mem_drop hp)), (by rw [List.length_drop]; omega), fun B2 y s2 ey fr => ?_⟩
    have wy : F2.WF (fsOf ls) k S (made it ((Qs.drop (Qs.length - takes (hsL ls) it)).map Prod.fst)) := made_wf (itg_ok gi rfl hk C.has (by rw [C.le, List.length_map]; exact Nat.le_refl _)) (fun f hf => by obtain ⟨p, hp, rfl⟩ := List.mem_map.mp hf; exact hW p (List.mem_of_mem_drop hp)) (by rw [List.length_map, List.length_drop, fs_hands]; omega)
    have h3 : Hd B2 [(e2, .lst ((Qs.take (Qs.length - takes (hsL ls) it)).map fun p => V.ref p.2))] (upd B2 e2 (.lst ((Qs.take (Qs.length - takes (hsL ls) it)).map fun p => V.ref p.2))) := Hd.base.new fr
    refine ⟨e2, _, _, rfl, rfl, h3.get 0 rfl, (by rw [List.length_map, List.length_take]; omega), ?_⟩
    have h3 := h3.put (o' := .lst ((Qs.take (Qs.length - takes (hsL ls) it) ++ [(made it ((Qs.drop (Qs.length - takes (hsL ls) it)).map Prod.fst), y)]).map fun p => V.ref p.2)) 0 rfl
    rw [List.map_append] at h3
    refine ⟨B2, e2, Qs.take (Qs.length - takes (hsL ls) it) ++ [(made it ((Qs.drop (Qs.length - takes (hsL ls) it)).map Prod.fst), y)], _, _, _, rfl, sJ1.trans (sB'.trans s2), by rw [List.map_append]; exact h3, fun p hp => ?_, fun p hp => ?_, by rw [List.length_append, List.length_take]; show _ + 1 ≤ _; omega, ?_, ?_⟩
    · rcases List.mem_append.mp hp with hp | hp
      · exact s2 _ _ (sB' _ _ (h.sm _ _ (hA p (List.mem_of_mem_take hp))))
      · cases List.mem_singleton.mp hp; exact ey
    · rcases List.mem_append.mp hp with hp | hp
      · exact hW p (List.mem_of_mem_take hp)
      · cases List.mem_singleton.mp hp; exact wy
    · rw [List.length_append, List.length_take, Nat.min_eq_left (Nat.sub_le _ _)]; exact hV
    · rw [er]
      show runF (hsL ls) ((Ps.drop (i + 1)).map Prod.fst) _ = _
      rw [List.length_map, List.map_append, ← List.map_take, ← List.map_drop]
      rfl
  · rintro σ J ⟨B, pl, Qs, u5, u6, u7, rfl, sB, h, hA, hW, hl, hV, er⟩
    rw [List.length_map, List.drop_length] at er hV
    have hQ : Qs.length = hh := by cases (show some _ = some hh from hV); rfl
    obtain ⟨y, a1, a2⟩ := pair_at (Ps := Qs) (i := 0) (by omega)
    refine ⟨_, rfl, pl, _, _, _, rfl, rfl, h.lst 0 rfl, atI_nat a1, q _ y (sB.trans h.sm) ?_⟩
    unfold formOf
    rw [er]
    exact h.sm _ _ (hA _ a2)
theorem ok_no {nm : Str} {qn : Str} {ps N : List Str} {st : Stmt} {k : Nat} (d : DefIn K mg nm st ps) (sc : FnScope N ps (defScope st)) : Ok P w K mg base CX0 (k + 1) nm ps (fun _ _ _ _ => False) := by
  obtain ⟨g, fd, m, F, bd⟩ := d
  exact ⟨g, fd, m, F.kp, bd, F.ok (sp := fun _ _ _ _ => False) sc (fun vs H Q E h => False.elim h) fun cdv A outer s H vs Q E hr h => False.elim h⟩
theorem ok_joined_all (dj : DefIn K mg "_law_joined" s_l_joined ["_law_item", "_law_parts", "_law_rows", "_law_place", "_law_own", "_law_functions"]) (d : DefIn K mg "_law_result" s_l_result ["_law_post", "_law_rows", "_law_place", "_law_own", "_law_functions"]) (hlen : mg "len" = none) (SG : Ok P w K mg base (CXe P w base) 1 "_law_signed" ["_law_sign", "_law_left", "_law_right_here"] spSigned) (CD : Ok P w K mg base (CXe P w base) 1 "_law_cell_due" ["_law_item", "_law_part", "_law_place", "_law_worth"] (spCellDue K)) (TK : Ok P w K mg base (CXe P w base) 1 "_law_takes" ["_law_item", "_law_functions"] (spTakes K)) : ∀ k : Nat, Ok P w K mg base CX0 (2 * k + 2) "_law_joined" ["_law_item", "_law_parts", "_law_rows", "_law_place", "_law_own", "_law_functions"] (spJoined K k)
  | 0 => ok_joined 0 dj SG CD (ok_no (qn := "") d sc_l_result)
  | k + 1 => ok_joined (k + 1) dj SG CD (ok_result_at k d hlen TK (ok_joined_all dj d hlen SG CD TK k))
end
end K13
namespace K13
open PySem L2 FM PO
theorem hsL_app {ls : List FnL} {f : FnL} {j : Int} (h : j.toNat < ls.length) : hsL (ls ++ [f]) j = hsL ls j := by
  unfold hsL
  rw [List.getD_eq_getElem?_getD, List.getElem?_append_left h, List.getD_eq_getElem?_getD]
theorem call_in {wd : List Int} {nr m k : Nat} {its : List Item} (h : ∀ it ∈ its, ItG wd nr m k it) {j : Int} (hj : Item.call j ∈ its) : j.toNat < k := (h _ hj).2
theorem lsok_app {ls : List FnL} {f : FnL} (h : LsOk ls) (v : Vl (hsL ls) f.post 0 = some 1) (g : ∀ it ∈ f.post, ItG [] 0 f.hands ls.length it) (n : f.post.length ≤ 40) (h6 : f.hands ≤ 6) : LsOk (ls ++ [f]) := by
  intro i hi
  rw [List.length_append] at hi
  have hi : i < ls.length + 1 := hi
  by_cases z : i < ls.length
  · rw [List.getD_eq_getElem?_getD, List.getElem?_append_left z, ← List.getD_eq_getElem?_getD]
    have q := h i z
    exact ⟨by rw [Vl_congr _ _ fun j hj => hsL_app (by have := call_in q.g hj; omega)]; exact q.v, q.g, q.n, q.h⟩
  · have e : i = ls.length := by omega
    subst e
    rw [List.getD_eq_getElem?_getD, List.getElem?_append_right (Nat.le_refl _), Nat.sub_self]
    exact ⟨by show Vl (hsL (ls ++ [f])) f.post 0 = some 1; rw [Vl_congr _ _ fun j hj => hsL_app (call_in g hj)]; exact v, g, n, h6⟩
section
variable {P : Program} {w : World} {K : PySem.W.Frag} {mg : Str → Option Value} {base : Heap}
def spFunsBy (K : PySem.W.Frag) : Sp := fun vs H Q _ => ∃ (ca : Addr) (ns : List Int), vs = [.ref ca] ∧ SqL K H ca (ns.map V.int) ∧ 0 < ns.length ∧ ns.length ≤ 63 ∧ ∀ H' fa ls, Same H H' → LFuns K H' fa ls → LsOk ls → ls.length ≤ 3 → Q (.ref fa) H'
theorem ok_funsBy (d : DefIn K mg "_law_functions_by" s_l_functions_by ["_law_cells"]) (hlen : mg "len" = none) (hrg : mg "range" = none) (MX : Ok P w K mg base (CXe P w base) 1 "_law_mix" ["_law_cell", "_law_factor", "_law_prime"] spMix) (PB : Ok P w K mg base CX0 3 "_law_post_by" ["_law_cells", "_law_wide", "_law_lengths", "_law_hands", "_law_functions", "_law_room"] (spPostBy K)) : Ok P w K mg base CX0 4 "_law_functions_by" ["_law_cells"] (spFunsBy K) := by
  obtain ⟨g, fd, m, F, b⟩ := d
  refine ⟨g, fd, m, F.kp, b, F.ok sc_l_functions_by (fun vs H Q E ⟨_, _, e, _⟩ => by rw [e]; rfl) fun cdv A outer s H vs Q E hr h => ?_⟩
  obtain ⟨ca, ns, rfl, hS, hn, hn6, q⟩ := h
  have nd := sc_l_functions_by.nd
  have hr3 := hr
  have hr1 : Room 1 _ := hr.mono (by decide)
  have SL : (600 : Nat) < sizeLine := by decide
  have a0 := at_int (ns := ns) 0 hn (show (0 : Int) = ((0 : Nat) : Int) from rfl)
  generalize ns.getD 0 0 = n0 at a0
  have idx : ∀ z : Int, 0 ≤ z % (ns.length : Int) ∧ (z % (ns.length : Int)).toNat < ns.length := fun z => by
    have := Int.emod_nonneg z (show (ns.length : Int) ≠ 0 by omega)
    have := Int.emod_lt_of_pos z (show (0 : Int) < (ns.length : Int) by omega)
    omega
  refine ⟨_, (pss_cons (ps_set (i := 1) nd rfl (Or.inl rfl) (pe_lst pa_nil))
      (pss_cons (ps_for PassesOwn.never rfl (pi_range1 rfl hrg (pa_cons (pe_op op_mod (pe_op op_fdiv (pe_ix ix_list (pv 0) pe_int (fun _ _ => rfl)) pe_int) pe_int) pa_nil)) (pg_name (i := 2) nd rfl (Or.inl rfl)) (pss_cons (ps_set (i := 3) nd rfl (Or.inl rfl) (pe_op op_mod (pe_ok MX hr1 (by rfl) passF (pa_cons (pe_ix ix_list (pv 0) (pe_op op_mod (pv 2) (pe_callB call_len_seq (by rfl) hlen PySem.boot_len (pa_cons (pv 0) pa_nil))) (fun _ _ => rfl)) (pa_cons (pe_op op_add pe_int (pe_op op_mul pe_int (pv 2))) (pa_cons pe_int pa_nil)))) pe_int))
      (pss_cons (ps_set (i := 4) nd rfl (Or.inl rfl) (pe_lst pa_nil))
      (pss_cons (ps_for PassesOwn.never rfl (pi_range1 rfl hrg (pa_cons pe_int pa_nil)) (pg_name (i := 5) nd rfl (Or.inl rfl)) (pss_cons (ps_set (i := 6) nd rfl (Or.inl rfl) (pe_op op_add (pe_ix ix_list (pv 0) (pe_op op_mod (pe_op op_add (pv 2) (pv 5)) (pe_callB call_len_seq (by rfl) hlen PySem.boot_len (pa_cons (pv 0) pa_nil))) (fun _ _ => rfl)) (pe_op op_mul (pe_op op_mul pe_int (pv 5)) (pv 5))))
      (pss_one (ps_expr (pe_bm PySem.F.plainAttrs_list PySem.F.slot_list_append PySem.F.type_list_append mt_append (pv 4) (pa_cons (pe_ok MX hr1 (by rfl) passF (pa_cons (pv 6) (pa_cons (pe_op op_add (pe_op op_mul pe_int (pe_op op_add (pv 2) pe_int)) (pe_op op_mul pe_int (pv 5))) (pa_cons pe_int pa_nil)))) pa_nil))))))
      (pss_cons (ps_set (i := 7) nd rfl (Or.inl rfl) (pe_ok PB hr3 (by rfl) pass0 (pa_cons (pv 4) (pa_cons (pe_lst pa_nil) (pa_cons (pe_lst pa_nil) (pa_cons (pv 3) (pa_cons (pv 1) (pa_cons pe_int pa_nil))))))))
      (pss_one (ps_expr (pe_bm PySem.F.plainAttrs_list PySem.F.slot_list_append PySem.F.type_list_append mt_append (pv 1) (pa_cons (pe_tup (pa_cons (pv 3) (pa_cons (pe_ix ix_tup (pv 7) pe_int (fun _ _ => rfl)) (pa_cons (pe_ix ix_tup (pv 7) pe_int (fun _ _ => rfl)) (pa_cons (pe_ix ix_tup (pv 7) pe_int (fun _ _ => rfl)) pa_nil))))) pa_nil)))))))))
      (pss_one (ps_ret (pv 1))))), ?_⟩
  refine ⟨(by show 0 ≤ sizeLine; decide), fun fa nfa => ?_⟩
  have h0 : Hd H [(fa, .lst (([] : List (FnL × Addr)).map fun p => V.ref p.2))] (upd H fa (.lst [])) := Hd.base.new nfa
  generalize upd H fa (.lst []) = H1 at h0 ⊢
  refine ⟨_, rfl, ca, _, _, _, rfl, rfl, h0.sql hS, a0, _, _, rfl, rfl, ⟨by decide, by decide⟩, _, _, rfl, rfl, (by show (0 : Int) < 4; decide), _, rfl, (by show -(2 ^ 62) ≤ n0 / 3 % 4; omega), (by show n0 / 3 % 4 < 2 ^ 62; omega), ?_⟩
  show ∃ W : Nat → Nat → St → Hp → Prop, _
  refine for_range (n := (n0 / 3 % 4).toNat) (fun i σ J => ∃ (B : Hp) (Ts : List (FnL × Addr)) (u2 u3 u4 u5 u6 u7 : Option V), σ = [some (.ref ca), some (.ref fa), u2, u3, u4, u5, u6, u7] ∧ Same H B ∧ Hd B [(fa, .lst (Ts.map fun p => V.ref p.2))] J ∧ (∀ p ∈ Ts, FnAt B p.1 p.2) ∧ LsOk (Ts.map Prod.fst) ∧ Ts.length = i) ⟨H, [], none, none, none, none, none, none, rfl, Same.refl _, h0, (fun p hp => nomatch hp), (fun i hi => absurd hi (Nat.not_lt_zero _)), rfl⟩ ?_ ?_
  · clear h0
    rintro i σ J hi ⟨B, Ts, u2, u3, u4, u5, u6, u7, rfl, sB, h, hA, hO, hl⟩
    have i8 : i < 3 := by omega
    have hS1 := sql_same hS sB
    obtain ⟨x0, x1⟩ := idx (0 + (i : Int))
    refine ⟨_, rfl, _, rfl, _, rfl, ca, _, rfl, .inl (h.sql hS1), _, _, rfl, rfl, (by rw [List.length_map]; omega), ca, _, _, _, rfl, rfl, h.sql hS1, at_int ((0 + (i : Int)) % (ns.length : Int)).toNat x1 (by rw [List.length_map]; omega), ?_⟩
    generalize ns.getD ((0 + (i : Int)) % (ns.length : Int)).toNat 0 = cj
    refine ⟨_, rfl, _, _, rfl, rfl, .inl ⟨by decide, by decide⟩, _, _, rfl, rfl, cj, _, _, rfl, by omega, by omega, by decide, _, _, rfl, rfl, (by show (0 : Int) < 4; decide), ?_⟩
    have m0 := Int.emod_nonneg (cj * (69621 + 2 * (0 + (i : Int))) % 2147483629) (show (4 : Int) ≠ 0 by decide)
    have m1 := Int.emod_lt_of_pos (cj * (69621 + 2 * (0 + (i : Int))) % 2147483629) (show (0 : Int) < 4 by decide)
    show gName 3 (.int (cj * (69621 + 2 * (0 + (i : Int))) % 2147483629 % 4)) _ _ _
    generalize cj * (69621 + 2 * (0 + (i : Int))) % 2147483629 % 4 = hd' at m0 m1 ⊢
    obtain ⟨hn', rfl⟩ : ∃ n : Nat, hd' = n := ⟨hd'.toNat, by omega⟩
    refine ⟨(by show 0 ≤ sizeLine; decide), fun gv ngv => ?_⟩
    have h1 : Hd B [(gv, .lst (([] : List Int).map V.int)), (fa, .lst (Ts.map fun p => V.ref p.2))] (upd J gv (.lst [])) := h.new ngv
    generalize upd J gv (.lst []) = J1 at h1 ⊢
    refine ⟨6, rfl, by decide, by decide, ?_⟩
    refine for_range (n := 6) (fun i2 σ J => ∃ (gs : List Int) (u5 u6 : Option V), σ = [some (.ref ca), some (.ref fa), some (.int (0 + (i : Int))), some (.int (hn' : Int)), some (.ref gv), u5, u6, u7] ∧ Hd B [(gv, .lst (gs.map V.int)), (fa, .lst (Ts.map fun p => V.ref p.2))] J ∧ gs.length = i2) ⟨[], _, _, rfl, h1, rfl⟩ ?_ ?_
    · clear h1
      rintro i2 σ J2 hi2 ⟨gs, u5, u6, rfl, h, hgl⟩
      obtain ⟨y0, y1⟩ := idx (0 + (i : Int) + (0 + (i2 : Int)))
      refine ⟨_, rfl, _, rfl, _, rfl, _, _, rfl, rfl, _, rfl, ca, _, rfl, .inl (h.sql hS1), _, _, rfl, rfl, (by rw [List.length_map]; omega), ca, _, _, _, rfl, rfl, h.sql hS1, at_int ((0 + (i : Int) + (0 + (i2 : Int))) % (ns.length : Int)).toNat y1 (by rw [List.length_map]; omega), ?_⟩
      generalize ns.getD ((0 + (i : Int) + (0 + (i2 : Int))) % (ns.length : Int)).toNat 0 = ck
      refine ⟨_, rfl, _, _, rfl, rfl, .inl ⟨by decide, by decide⟩, _, rfl, _, _, rfl, rfl, .inr ⟨by omega, by omega⟩, _, _, rfl, rfl, ?_⟩
      refine ⟨_, rfl, .inl ⟨rfl, _, h.lst 0 rfl⟩, _, rfl, _, rfl, _, _, rfl, rfl, _, _, rfl, rfl, .inl ⟨by decide, by decide⟩, _, rfl, _, _, rfl, rfl, .inl ⟨by decide, by decide⟩, _, _, rfl, rfl, _, _, _, rfl, by omega, by omega, by decide, gv, _, _, rfl, rfl, h.get 0 rfl, (by rw [List.length_map]; omega), ?_⟩
      generalize hz : ((ck + 3 * (0 + (i2 : Int)) * (0 + (i2 : Int))) * (48271 * (0 + (i : Int) + 1) + 16 * (0 + (i2 : Int))) % 18446744073709551557) = z
      have h := h.put (o' := .lst ((gs ++ [z]).map V.int)) 0 rfl
      rw [List.map_append] at h
      exact ⟨gs ++ [z], _, _, rfl, by rw [List.map_append]; exact h, by rw [List.length_append, hgl]; rfl⟩
    clear h1
    rintro σ J2 ⟨gs, u5', u6', rfl, h, hgl⟩
    have hf : LFuns K J2 fa (Ts.map Prod.fst) := ⟨Ts, h.lst 1 rfl, rfl, fun p hp => (hA p hp).same h.sm⟩
    refine ⟨_, rfl, (by show 0 ≤ sizeLine; decide), fun e1 ne1 => ?_⟩
    have s3 : Same J2 (upd J2 e1 (.lst [])) := same_upd (Same.refl _) ne1
    have ee1 : upd J2 e1 (.lst []) e1 = some (.lst (([] : List Int).map V.int)) := upd_same
    generalize upd J2 e1 (.lst []) = J3 at s3 ee1 ⊢
    refine ⟨(by show 0 ≤ sizeLine; decide), fun e2 ne2 => ?_⟩
    have s4 : Same J3 (upd J3 e2 (.lst [])) := same_upd (Same.refl _) ne2
    have ee2 : upd J3 e2 (.lst []) e2 = some (.lst (([] : List Int).map V.int)) := upd_same
    generalize upd J3 e2 (.lst []) = J4 at s4 ee2 ⊢
    have h := h.same (s3.trans s4)
    have hf := hf.same (s3.trans s4)
    refine ⟨_, rfl, _, rfl, gv, fa, e1, e2, [], [], hn', 9, gs, Ts.map Prod.fst, rfl, h.lst 0 rfl, by omega, SqL.of (s4 _ _ ee1), SqL.of ee2, (fun v hv => nomatch hv), hf, fun J5 t po Ps sz dp npo s5 et epo hI hG hPl hV => ?_⟩
    have h := h.same s5
    rw [List.length_map] at hG
    refine ⟨_, rfl, .inl ⟨rfl, _, h.lst 1 rfl⟩, _, rfl, _, rfl, t, _, 0, .ref po, rfl, rfl, SqT.of et, rfl, _, rfl, t, _, 1, .int sz, rfl, rfl, SqT.of et, rfl, _, rfl, t, _, 2, .int dp, rfl, rfl, SqT.of et, rfl, (by show 4 ≤ sizeLine; decide), fun tt ntt => ?_⟩
    have h := h.new (o := .tup [.int (hn' : Int), .ref po, .int sz, .int dp]) ntt
    have epo : upd J5 tt (.tup [.int (hn' : Int), .ref po, .int sz, .int dp]) po = some (.lst (Ps.map fun p => V.ref p.2)) := by rw [upd_ne (ne_of_none epo ntt)]; exact epo
    have hI : ∀ p ∈ Ps, upd J5 tt (.tup [.int (hn' : Int), .ref po, .int sz, .int dp]) p.2 = some (.tup p.1.v) := fun p hp => by rw [upd_ne (ne_of_none (hI p hp) ntt)]; exact hI p hp
    have pf : po ≠ fa := fun e => by
      subst e
      have := (by assumption : Hd B [(gv, .lst (gs.map V.int)), (po, .lst (Ts.map fun p => V.ref p.2))] J4).get 1 rfl
      rw [npo] at this
      cases this
    generalize upd J5 tt (.tup [.int (hn' : Int), .ref po, .int sz, .int dp]) = J6 at h epo hI ⊢
    refine ⟨fa, _, _, rfl, rfl, h.get 2 rfl, (by rw [List.length_map]; omega), ?_⟩
    have efa := h.get 2 rfl
    obtain ⟨sB2, hN⟩ := h.split (L' := [(fa, .lst (Ts.map fun p => V.ref p.2))]) (.cons _ (.cons _ (.cons₂ _ .slnil)))
    have sB2 : Same B (but J6 [fa]) := sB2
    have hN : Hd (but J6 [fa]) [(fa, .lst (Ts.map fun p => V.ref p.2))] J6 := hN
    have nt : ∀ {y : Addr} {v : List V}, J6 y = some (.tup v) → but J6 [fa] y = some (.tup v) := fun {y v} e => but_of e (fun m => by cases List.mem_singleton.mp m; rw [efa] at e; cases e)
    have fnew : FnAt (but J6 [fa]) ⟨hn', Ps.map Prod.fst, sz, dp⟩ tt := ⟨po, Ps, nt (h.get 0 rfl), but_of epo (fun m => pf (List.mem_singleton.mp m)), rfl, fun p hp => nt (hI p hp)⟩
    generalize but J6 [fa] = B2 at sB2 hN fnew
    have hN := hN.put (o' := .lst ((Ts ++ [((⟨hn', Ps.map Prod.fst, sz, dp⟩ : FnL), tt)]).map fun p => V.ref p.2)) 0 rfl
    rw [List.map_append] at hN
    refine ⟨B2, Ts ++ [((⟨hn', Ps.map Prod.fst, sz, dp⟩ : FnL), tt)], _, _, _, _, _, _, rfl, sB.trans sB2, by rw [List.map_append]; exact hN, fun p hp => ?_, ?_, by rw [List.length_append, hl]; rfl⟩
    · rcases List.mem_append.mp hp with hp | hp
      · exact (hA p hp).same sB2
      · cases List.mem_singleton.mp hp; exact fnew
    · rw [List.map_append]
      refine lsok_app hO hV (fun it hit => ?_) (by rw [List.length_map]; omega) (by show hn' ≤ 6; omega)
      obtain ⟨p, hp, rfl⟩ := List.mem_map.mp hit
      rw [List.length_map]
      exact hG p hp
  · rintro σ J ⟨B, Ts, u2, u3, u4, u5, u6, u7, rfl, sB, h, hA, hO, hl⟩
    exact ⟨_, rfl, q J fa (Ts.map Prod.fst) (sB.trans h.sm) ⟨Ts, h.lst 0 rfl, rfl, fun p hp => (hA p hp).same h.sm⟩ hO (by rw [List.length_map]; omega)⟩
end
end K13
namespace K13
open PySem L2 FM PO
def RowsOk (rows : List (List Int)) : Prop := ∀ x ∈ rows, 1 ≤ x.length ∧ x.length ≤ 400 ∧ ∀ v ∈ x, Kin v
section
variable {P : Program} {w : World} {K : PySem.W.Frag} {mg : Str → Option Value} {base : Heap}
def spRowsBy (K : PySem.W.Frag) : Sp := fun vs H Q _ => ∃ (sa : Addr) (many : Int) (ns : List Int), vs = [.ref sa, .int many] ∧ SqL K H sa (ns.map V.int) ∧ 0 < ns.length ∧ ns.length ≤ 63 ∧ 1 ≤ many ∧ many ≤ 400 ∧ ∀ H' ra rows, Same H H' → RowsAt K H' ra rows → RowsOk rows → 1 ≤ rows.length → rows.length ≤ 6 → Q (.ref ra) H'
theorem ok_rowsBy (d : DefIn K mg "_law_rows_by" s_l_rows_by ["_law_script", "_law_many"]) (hlen : mg "len" = none) (hrg : mg "range" = none) (MX : Ok P w K mg base (CXe P w base) 1 "_law_mix" ["_law_cell", "_law_factor", "_law_prime"] spMix) (KB : Ok P w K mg base (CXe P w base) 1 "_law_kept_by" ["_law_cell"] spKB) : Ok P w K mg base CX0 2 "_law_rows_by" ["_law_script", "_law_many"] (spRowsBy K) := by
  obtain ⟨g, fd, m, F, b⟩ := d
  refine ⟨g, fd, m, F.kp, b, F.ok sc_l_rows_by (fun vs H Q E ⟨_, _, _, e, _⟩ => by rw [e]; rfl) fun cdv A outer s H vs Q E hr h => ?_⟩
  obtain ⟨sa, many, ns, rfl, hS, hn, hn6, m1, m4, q⟩ := h
  have nd := sc_l_rows_by.nd
  have hr1 := hr
  have SL : (3000 : Nat) < sizeLine := by decide
  have idx : ∀ z : Int, 0 ≤ z % (ns.length : Int) ∧ (z % (ns.length : Int)).toNat < ns.length := fun z => by
    have := Int.emod_nonneg z (show (ns.length : Int) ≠ 0 by omega)
    have := Int.emod_lt_of_pos z (show (0 : Int) < (ns.length : Int) by omega)
    omega
  refine ⟨_, (pss_cons (ps_set (i := 2) nd rfl (Or.inl rfl) (pe_lst pa_nil))
      (pss_cons (ps_for PassesOwn.never rfl (pi_range1 rfl hrg (pa_cons (pe_op op_add pe_int (pe_op op_mod (pe_callB call_len_seq (by rfl) hlen PySem.boot_len (pa_cons (pv 0) pa_nil)) pe_int)) pa_nil)) (pg_name (i := 3) nd rfl (Or.inr rfl)) (pss_cons (ps_set (i := 4) nd rfl (Or.inr rfl) (pe_ix ix_list (pv 0) (pe_op op_mod (pe_op op_mul (pv 3) pe_int) (pe_callB call_len_seq (by rfl) hlen PySem.boot_len (pa_cons (pv 0) pa_nil))) (fun _ _ => rfl)))
      (pss_cons (ps_set (i := 5) nd rfl (Or.inl rfl) (pe_ix ix_list (pe_lst (pa_cons (pv 1) (pa_cons pe_int (pa_cons (pe_op op_add pe_int (pe_op op_mod (pe_op op_fdiv (pv 4) pe_int) pe_int)) pa_nil)))) (pe_op op_mod (pe_ok MX hr1 (by rfl) passF (pa_cons (pv 4) (pa_cons (pe_op op_add pe_int (pe_op op_mul pe_int (pv 3))) (pa_cons pe_int pa_nil)))) pe_int) (fun _ _ => rfl)))
      (pss_one (ps_expr (pe_bm PySem.F.plainAttrs_list PySem.F.slot_list_append PySem.F.type_list_append mt_append (pv 2) (pa_cons (pe_compC ["_law_i", "_law_cell", "_law_j"] [none, some 4, some 3] rfl rfl rfl (pi_range1 rfl hrg (pa_cons (pv 5) pa_nil)) (fun s3 H3 fp => ⟨pg_name (i := 0) (show ((["_law_i", "_law_cell", "_law_j"] : List Str)).Nodup by decide +kernel) rfl (Or.inl rfl), (pe_ok KB hr1 (by rfl) passF (pa_cons (pe_op op_add (pe_op op_add (pe_op op_fdiv (pv 1) pe_int) (pe_op op_mul (pe_op op_mul pe_int (pv 2)) (pv 2))) (pe_op op_mul pe_int (pv 0))) pa_nil))⟩)) pa_nil)))))))
      (pss_one (ps_ret (pv 2))))), ?_⟩
  refine ⟨(by show 0 ≤ sizeLine; decide), fun ra nra => ?_⟩
  have h0 : Hd H [(ra, .lst (([] : List (List Int × Addr)).map fun p => V.ref p.2))] (upd H ra (.lst [])) := Hd.base.new nra
  generalize upd H ra (.lst []) = H1 at h0 ⊢
  refine ⟨_, rfl, sa, _, rfl, .inl (h0.sql hS), _, _, rfl, rfl, (by show (0 : Int) < 6; decide), _, _, rfl, rfl, _, rfl, (by rw [List.length_map]; omega), (by rw [List.length_map]; omega), ?_⟩
  rw [List.length_map]
  refine for_range (n := (1 + (ns.length : Int) % 6).toNat) (fun i σ J => ∃ (B : Hp) (Rs : List (List Int × Addr)) (u3 u4 u5 : Option V), σ = [some (.ref sa), some (.int many), some (.ref ra), u3, u4, u5, none] ∧ Same H B ∧ Hd B [(ra, .lst (Rs.map fun p => V.ref p.2))] J ∧ (∀ p ∈ Rs, B p.2 = some (.lst (p.1.map V.int))) ∧ RowsOk (Rs.map Prod.fst) ∧ Rs.length = i) ⟨H, [], none, none, none, rfl, Same.refl _, h0, (fun p hp => nomatch hp), (fun p hp => nomatch hp), rfl⟩ ?_ ?_
  · clear h0
    rintro i σ J hi ⟨B, Rs, u3, u4, u5, rfl, sB, h, hA, hO, hl⟩
    have i8 : i < 6 := by omega
    have hS1 := sql_same hS sB
    obtain ⟨x0, x1⟩ := idx ((0 + (i : Int)) * 5)
    refine ⟨_, rfl, _, rfl, _, _, rfl, rfl, .inr ⟨by decide, by decide⟩, _, rfl, sa, _, rfl, .inl (h.sql hS1), _, _, rfl, rfl, (by rw [List.length_map]; omega), sa, _, _, _, rfl, rfl, h.sql hS1, at_int ((0 + (i : Int)) * 5 % (ns.length : Int)).toNat x1 (by rw [List.length_map]; omega), ?_⟩
    generalize ns.getD ((0 + (i : Int)) * 5 % (ns.length : Int)).toNat 0 = cj
    refine ⟨_, rfl, _, rfl, _, _, rfl, rfl, ⟨by decide, by decide⟩, _, _, rfl, rfl, (by show (0 : Int) < 9; decide), _, _, rfl, rfl, (by show 3 ≤ sizeLine; decide), fun e ne => ?_⟩
    have h := h.new (o := .lst [.int many, .int 1, .int (1 + cj / 3 % 9)]) ne
    generalize upd J e (.lst [.int many, .int 1, .int (1 + cj / 3 % 9)]) = J1 at h ⊢
    have z0 := Int.emod_nonneg (cj * (16807 + 2 * (0 + (i : Int))) % 2147483399) (show (3 : Int) ≠ 0 by decide)
    have z1 := Int.emod_lt_of_pos (cj * (16807 + 2 * (0 + (i : Int))) % 2147483399) (show (0 : Int) < 3 by decide)
    have pick : ∃ sz : Int, atI [V.int many, V.int 1, V.int (1 + cj / 3 % 9)] (cj * (16807 + 2 * (0 + (i : Int))) % 2147483399 % 3) = some (.int sz) ∧ 1 ≤ sz ∧ sz ≤ 400 := by
      generalize cj * (16807 + 2 * (0 + (i : Int))) % 2147483399 % 3 = z at z0 z1
      have : z = 0 ∨ z = 1 ∨ z = 2 := by omega
      rcases this with rfl | rfl | rfl
      · exact ⟨many, rfl, m1, m4⟩
      · exact ⟨1, rfl, by decide, by decide⟩
      · exact ⟨1 + cj / 3 % 9, rfl, by omega, by omega⟩
    obtain ⟨sz, ez, s1, s4⟩ := pick
    refine ⟨_, rfl, _, rfl, _, _, rfl, rfl, .inl ⟨by decide, by decide⟩, _, _, rfl, rfl, _, _, _, rfl, by omega, by omega, by decide, _, _, rfl, rfl, (by show (0 : Int) < 3; decide), e, _, _, _, rfl, rfl, h.lst 0 rfl, ez, ?_⟩
    have h := h.tl
    refine ⟨_, rfl, .inl ⟨rfl, _, h.lst 0 rfl⟩, _, rfl, _, rfl, (by omega), (by omega), _, rfl, fun D nD => ?_⟩
    have h1 : Hd B [(D, .lst (([] : List Int).map V.int)), (ra, .lst (Rs.map fun p => V.ref p.2))] (upd J1 D (.lst [])) := h.new nD
    refine comp_range (n := sz.toNat) (fun i2 σ J => ∃ (u : Option V) (vs : List Int), σ = [u, some (.int cj), some (.int (0 + (i : Int)))] ∧ vs.length = i2 ∧ (∀ v ∈ vs, Kin v) ∧ Hd B [(D, .lst (vs.map V.int)), (ra, .lst (Rs.map fun p => V.ref p.2))] J) ⟨none, [], rfl, rfl, (fun v hv => nomatch hv), h1⟩ ?_ ?_
    · clear h1
      rintro i2 σ J2 hi2 ⟨u, vs, rfl, hvl, hvk, h⟩
      refine ⟨_, rfl, _, _, rfl, rfl, ⟨by decide, by decide⟩, _, rfl, _, _, rfl, rfl, .inl ⟨by decide, by decide⟩, _, rfl, _, _, rfl, rfl, .inr ⟨by omega, by omega⟩, _, _, rfl, rfl, _, rfl, _, _, rfl, rfl, .inl ⟨by decide, by decide⟩, _, _, rfl, rfl, _, rfl, fun J3 s3 => ?_⟩
      have h := h.same s3
      generalize hz : keptBy _ = v
      have kv : Kin v := by rw [← hz]; exact keptBy_in _
      refine ⟨_, h.get 0 rfl, (by rw [List.length_map]; omega), _, vs ++ [v], rfl, by rw [List.length_append, hvl]; rfl, fun x hx => ?_, ?_⟩
      · rcases List.mem_append.mp hx with hx | hx
        · exact hvk x hx
        · cases List.mem_singleton.mp hx; exact kv
      · rw [List.map_append]; exact h.put 0 rfl
    clear h1
    rintro σ J2 ⟨u, vs, rfl, hvl, hvk, h⟩
    have efa := h.get 1 rfl
    refine ⟨ra, _, _, rfl, rfl, efa, (by rw [List.length_map]; omega), ?_⟩
    obtain ⟨sB2, hN⟩ := h.split (L' := [(ra, .lst (Rs.map fun p => V.ref p.2))]) (List.sublist_cons_self _ _)
    have sB2 : Same B (but J2 [ra]) := sB2
    have hN : Hd (but J2 [ra]) [(ra, .lst (Rs.map fun p => V.ref p.2))] J2 := hN
    have bD : but J2 [ra] D = some (.lst (vs.map V.int)) := but_of (h.get 0 rfl) (fun m => h.ne 0 1 rfl rfl (by decide) (List.mem_singleton.mp m))
    generalize but J2 [ra] = B2 at sB2 hN bD
    have hN := hN.put (o' := .lst ((Rs ++ [(vs, D)]).map fun p => V.ref p.2)) 0 rfl
    rw [List.map_append] at hN
    refine ⟨B2, Rs ++ [(vs, D)], _, _, _, rfl, sB.trans sB2, by rw [List.map_append]; exact hN, fun p hp => ?_, fun x hx => ?_, by rw [List.length_append, hl]; rfl⟩
    · rcases List.mem_append.mp hp with hp | hp
      · exact sB2 _ _ (hA p hp)
      · cases List.mem_singleton.mp hp; exact bD
    · rw [List.map_append] at hx
      rcases List.mem_append.mp hx with hx | hx
      · exact hO x hx
      · cases List.mem_singleton.mp hx
        exact ⟨by show 1 ≤ vs.length; omega, by show vs.length ≤ 400; omega, hvk⟩
  · rintro σ J ⟨B, Rs, u3, u4, u5, rfl, sB, h, hA, hO, hl⟩
    exact ⟨_, rfl, q J ra (Rs.map Prod.fst) (sB.trans h.sm) ⟨Rs, h.lst 0 rfl, rfl, fun p hp => h.sm _ _ (hA p hp)⟩ hO (by rw [List.length_map]; omega) (by rw [List.length_map]; omega)⟩
end
end K13
namespace K13
open PySem L2 FM PO
def d2 (r : Res) : PyData := match r with
  | .ok n => .tuple [.str "", .int n]
  | .nought => .tuple [.str "nought", .int 0]
  | .outside => .tuple [.str "outside", .int 0]
theorem d2_dv {K : PySem.W.Frag} {H : Hp} {t : Addr} {r : Res} (h : H t = some (.tup (resV r))) : DV K H (.ref t) (d2 r) := by
  cases r <;> exact .tup (SqT.of h) (.cons (.str _) (.cons (.int _) .nil))
theorem d2_lay {r : Res} : (d2 r).canLay0 = true := by
  cases r <;> (simp [d2, PyData.canLay0, PyData.canLayAll0]; try decide +kernel)
theorem d2_dep {r : Res} : (d2 r).depth ≤ 64 := by
  cases r <;> exact Nat.le_trans (dep_tup (n := 2) (dep_cons (by show PyData.depth (.str _) ≤ 2; simp [PyData.depth]) (dep_cons (by show PyData.depth (.int _) ≤ 2; simp [PyData.depth]) dep_nil))) (by decide)
theorem flat_len : ∀ {rows : List (List Int)}, RowsOk rows → rows.flatten.length ≤ 400 * rows.length
  | [], _ => Nat.le_refl _
  | x :: r, h => by
    have := flat_len (rows := r) fun y hy => h y (List.mem_cons_of_mem _ hy)
    have := (h x List.mem_cons_self).2.1
    rw [List.flatten_cons, List.length_append, List.length_cons]
    omega
section
variable {P : Program} {w : World} {K : PySem.W.Frag} {mg : Str → Option Value} {base : Heap}
theorem al_any {it : Item} : Allowed true it := by
  cases it <;> trivial
theorem bodies_works {c : F2.Cs} {CN OU : Addr} {ls : List FnL} (W : Works3 P w K mg base c CN OU true (fsOf ls)) (ok : LsOk ls) : ∀ (k : Nat) (a : Int), a.toNat < (fsOf ls).length → F2.Worth P w K mg base c CN OU (3 + 41 * (k + 1)) (fsOf ls) k (F2.bodyOf (fsOf ls) a)
  | 0, a, h => by
    rw [fs_len] at h
    rw [fs_body h]
    have q := ok a.toNat h
    exact (form_works W _ (rm := 3) (fun a _ z _ => absurd z (Nat.not_lt_zero _)) (Nat.le_refl _) (fun it hi => al_any)).mono (by have := q.n; omega)
  | k + 1, a, h => by
    rw [fs_len] at h
    rw [fs_body h]
    have q := ok a.toNat h
    exact (form_works (k := k + 1) W _ (rm := 3 + 41 * (k + 1)) (fun a _ _ z => bodies_works W ok k a z) (by omega) (fun it hi => al_any)).mono (by have := q.n; omega)
structure WideOk (wd : List Int) (rows : List (List Int)) (place : Int) : Prop where
  w : ∀ r ∈ wd, 0 ≤ r ∧ r.toNat < rows.length ∧ ((rows.getD r.toNat []).length = 1 ∨ (0 ≤ place ∧ place < ((rows.getD r.toNat []).length : Int)))
def spRight (K : PySem.W.Frag) (c : F2.Cs) : Sp := fun vs H Q _ => ∃ (fx pa ra fa ba : Addr) (place : Int) (Ps : List (Item × Addr)) (rows : List (List Int)) (wd : List Int) (ls : List FnL), vs = [.ref fx, .ref pa, .ref ra, .int place, .ref fa, .ref ba] ∧ F2.FormAt c H (formOf (hsL ls) (Ps.map Prod.fst)) fx ∧ H pa = some (.lst (Ps.map fun p => V.ref p.2)) ∧ (∀ p ∈ Ps, H p.2 = some (.tup p.1.v)) ∧ (∀ p ∈ Ps, ItG wd rows.length 0 ls.length p.1) ∧ Ps.length ≤ 80 ∧ Vl (hsL ls) (Ps.map Prod.fst) 0 = some 1 ∧
  RowsAt K H ra rows ∧ RowsOk rows ∧ rows.length ≤ 6 ∧ WideOk wd rows place ∧ 0 ≤ place ∧ place ≤ 400 ∧ LFuns K H fa ls ∧ LsOk ls ∧ ls.length ≤ 3 ∧ F2.FunsAt c K H ba (fsOf ls) ∧ ∀ H', Same H H' → Q (.bl true) H'
theorem ok_right {c : F2.Cs} {CN OU : Addr} (d : DefIn K mg "_law_right" s_l_right ["_law_form", "_law_post", "_law_rows", "_law_place", "_law_functions", "_law_bodies"]) (hlen : mg "len" = none) (hlist : mg "list" = none) (W : ∀ ls, LsOk ls → Works3 P w K mg base c CN OU true (fsOf ls)) (hCs : mg "Spot" = some (.ref c.spot)) (IS : OkI P w K mg base (CXe P w base) 1 c.spot ["self", "lengths", "functions", "cells", "place", "own"] (spI_Spot c.spot))
    (WH : Ok P w K mg base (CXe P w base) 1 "_law_whole" ["_law_found"] (sp1 fun _ => .bl true)) (AS : Ok P w K mg base (CXe P w base) 211 "_law_asked" ["_law_form", "_law_spot"] (spAsked P w K mg base c CN OU 210)) (RS : ∀ k : Nat, Ok P w K mg base CX0 (2 * k + 3) "_law_result" ["_law_post", "_law_rows", "_law_place", "_law_own", "_law_functions"] (spResult K k)) :
    Ok P w K mg base CX0 212 "_law_right" ["_law_form", "_law_post", "_law_rows", "_law_place", "_law_functions", "_law_bodies"] (spRight K c) := by
  obtain ⟨g, fd, m, F, b⟩ := d
  refine ⟨g, fd, m, F.kp, b, F.ok sc_l_right (fun vs H Q E ⟨_, _, _, _, _, _, _, _, _, _, e, _⟩ => by rw [e]; rfl) fun cdv A outer s H vs Q E hr h => ?_⟩
  obtain ⟨fx, pa, ra, fa, ba, place, Ps, rows, wd, ls, rfl, hF, hpa, hI, hG, hPl, hV, hR, hRo, r6, hwd, p0, p1, hf, hO, l3, hB, q⟩ := h
  have nd := sc_l_right.nd
  have hrA := hr
  have hr1 : Room 1 _ := hr.mono (by decide)
  have hr2 : Room 2 _ := hr.mono (by decide)
  have hrS : Room (2 * ls.length + 3) _ := hr.mono (by omega)
  have hu := hr.units
  have SL : (3000 : Nat) < sizeLine := by decide
  have Wk := W ls hO
  have hbd := ls_bodies hO
  have fl := flat_len hRo
  refine ⟨_, (pss_cons (ps_set (i := 6) nd rfl (Or.inl rfl) (pe_lst pa_nil))
      (pss_cons (ps_for PassesOwn.never rfl (pi_list (pv 2)) (pg_name (i := 7) nd rfl (Or.inl rfl)) (pss_one (ps_expr (pe_bm PySem.F.plainAttrs_list PySem.F.slot_list_extend PySem.F.type_list_extend mt_extend (pv 6) (pa_cons (pv 7) pa_nil)))))
      (pss_cons (ps_set (i := 8) nd rfl (Or.inl rfl) (pe_callTy call_list_of (by rfl) hlist PyProof.Rows.boot_list (pa_cons (pv 6) pa_nil)))
      (pss_cons (ps_set (i := 9) nd rfl (Or.inl rfl) (pe_ok AS hrA (by rfl) passF (pa_cons (pv 0) (pa_cons (pe_okI IS hCs hr2 (by rfl) passF (pa_cons (pe_compC ["_law_row"] [none] rfl rfl rfl (pi_list (pv 2)) (fun s3 H3 fp => ⟨pg_name (i := 0) (show ((["_law_row"] : List Str)).Nodup by decide +kernel) rfl (Or.inl rfl), (pe_callB (call_lenK (K := K) rfl) (by rfl) hlen PySem.boot_len (pa_cons (pv 0) pa_nil))⟩)) (pa_cons (pe_callTy call_list_of (by rfl) hlist PyProof.Rows.boot_list (pa_cons (pv 5) pa_nil)) (pa_cons (pv 8) (pa_cons (pv 3) (pa_cons (pe_lst pa_nil) pa_nil)))))) pa_nil))))
      (pss_cons (ps_if (pw_or (pt_cmpR (op_neD hu) (pv 9) (pe_ok (RS ls.length) hrS (by rfl) pass0 (pa_cons (pv 1) (pa_cons (pv 2) (pa_cons (pv 3) (pa_cons (pe_lst pa_nil) (pa_cons (pv 4) pa_nil)))))) (nomark _)) (pw_or1 (pt_cmpR (op_neD hu) (pv 8) (pv 6) (nomark _)))).pt (pss_one (ps_ret pe_bl)) pss_nil)
      (pss_one (ps_ret (pe_or (pe_cmpR op_ne (pe_ix ix_tup (pv 9) pe_int (fun _ _ => rfl)) pe_str (nomark _)) (pe_one (pe_ok WH hr1 (by rfl) passF (pa_cons (pe_ix ix_tup (pv 9) pe_int (fun _ _ => rfl)) pa_nil))))))))))), ?_⟩
  obtain ⟨Rs, t1, t2, t3⟩ := id hR.ex
  subst t2
  rw [List.length_map] at r6
  refine ⟨(by show 0 ≤ sizeLine; decide), fun cl ncl => ?_⟩
  have h0 : Hd H [(cl, .lst ((((Rs.take 0).map Prod.fst).flatten).map V.int))] (upd H cl (.lst [])) := Hd.base.new ncl
  refine ⟨_, rfl, ra, rfl, ⟨_, h0.sql t1⟩, ?_⟩
  refine for_list (K := K) (a := ra) (xs := Rs.map fun p => V.ref p.2) (fun i σ J => ∃ u7, σ = [some (.ref fx), some (.ref pa), some (.ref ra), some (.int place), some (.ref fa), some (.ref ba), some (.ref cl), u7, none, none] ∧ Hd H [(cl, .lst ((((Rs.take i).map Prod.fst).flatten).map V.int))] J) ⟨none, rfl, h0⟩ (fun i σ J _ ⟨_, _, h⟩ => h.sql t1) ?_ ?_
  · clear h0
    rintro i y σ J hi ⟨u7, rfl, h⟩
    obtain ⟨p, hp', rfl⟩ : ∃ p, Rs[i]? = some p ∧ y = V.ref p.2 := by
      rw [List.getElem?_map] at hi
      cases ez : Rs[i]? with
      | none => rw [ez] at hi; cases hi
      | some z => rw [ez] at hi; exact ⟨z, rfl, by injection hi with hi; exact hi.symm⟩
    have mp := List.mem_of_getElem? hp'
    have es : ((Rs.take (i + 1)).map Prod.fst).flatten = ((Rs.take i).map Prod.fst).flatten ++ p.1 := by
      rw [List.take_add_one, hp', List.map_append, List.flatten_append]
      show _ ++ (p.1 ++ []) = _
      rw [List.append_nil]
    have bl : (((Rs.take (i + 1)).map Prod.fst).flatten).length ≤ 400 * 6 := by
      have := flat_len (rows := (Rs.take (i + 1)).map Prod.fst) fun x hx => hRo x (by rw [List.map_take] at hx; exact List.mem_of_mem_take hx)
      rw [List.length_map, List.length_take] at this
      omega
    refine ⟨_, rfl, .inl ⟨rfl, _, h.lst 0 rfl⟩, _, rfl, cl, p.2, _, _, rfl, rfl, h.get 0 rfl, h.sm _ _ (t3 _ mp), ?_, _, rfl, ?_⟩
    · rw [es, List.length_append] at bl
      rw [List.length_map, List.length_map]
      omega
    · rw [es, List.map_append]
      exact h.put 0 rfl
  clear h0
  rintro σ J ⟨u7, rfl, h⟩
  rw [List.length_map, List.take_length] at h
  refine ⟨_, rfl, cl, _, rfl, .inl (h.lst 0 rfl), fun hn nhn => ?_⟩
  have h := h.new (o := .lst (((Rs.map Prod.fst).flatten).map V.int)) nhn
  generalize upd J hn (.lst (((Rs.map Prod.fst).flatten).map V.int)) = J1 at h ⊢
  refine ⟨_, rfl, _, rfl, ra, rfl, ⟨_, h.sql t1⟩, _, rfl, fun D nD => ?_⟩
  have h1 : Hd H [(D, .lst ((((Rs.take 0).map fun p => (p.1.length : Int))).map V.int)), (hn, .lst (((Rs.map Prod.fst).flatten).map V.int)), (cl, .lst (((Rs.map Prod.fst).flatten).map V.int))] (upd J1 D (.lst [])) := h.new nD
  refine comp_list (K := K) (a := ra) (D := D) (xs := Rs.map fun p => V.ref p.2) (fun i σ J => ∃ u, σ = [u] ∧ Hd H [(D, .lst ((((Rs.take i).map fun p => (p.1.length : Int))).map V.int)), (hn, .lst (((Rs.map Prod.fst).flatten).map V.int)), (cl, .lst (((Rs.map Prod.fst).flatten).map V.int))] J) ⟨none, rfl, h1⟩ (fun i σ J _ ⟨_, _, h⟩ => h.sql t1) ?_ ?_
  · clear h1
    rintro i y σ J2 hi ⟨u, rfl, h⟩
    obtain ⟨p, hp', rfl⟩ : ∃ p, Rs[i]? = some p ∧ y = V.ref p.2 := by
      rw [List.getElem?_map] at hi
      cases ez : Rs[i]? with
      | none => rw [ez] at hi; cases hi
      | some z => rw [ez] at hi; exact ⟨z, rfl, by injection hi with hi; exact hi.symm⟩
    have mp := List.mem_of_getElem? hp'
    refine ⟨_, rfl, p.2, _, rfl, .inl (SqL.of (h.sm _ _ (t3 _ mp))), _, h.get 0 rfl, (by rw [List.length_map, List.length_map, List.length_take]; omega), _, rfl, ?_⟩
    rw [List.take_add_one, hp', List.map_append, List.map_append, List.length_map]
    exact h.put 0 rfl
  clear h1
  rintro σ J2 ⟨u, rfl, h⟩
  rw [List.length_map, List.take_length] at h
  obtain ⟨ts, hts, tsl, tsi⟩ := id hB.ex
  refine ⟨_, rfl, ba, _, rfl, .inl (h.sql hts), fun bb nbb => ?_⟩
  have h := h.new (o := .lst (ts.map V.ref)) nbb
  generalize upd J2 bb (.lst (ts.map V.ref)) = J3 at h ⊢
  refine ⟨_, rfl, _, rfl, (by show 0 ≤ sizeLine; decide), fun oe noe => ?_⟩
  have h := h.new (o := .lst []) noe
  generalize upd J3 oe (.lst []) = J4 at h ⊢
  refine fun xs dxs nxs ndxs nes => ⟨xs, dxs, _, _, _, _, _, rfl, upd_same, fun J5 k5 e5 => ⟨rfl, ?_⟩⟩
  have h := h.made0 nxs ndxs nes k5 e5
  have s5 := h.sm
  have le : (Rs.map fun p => (p.1.length : Int)) = (Rs.map Prod.fst).map fun x => (x.length : Int) := by rw [List.map_map]; rfl
  have hhn : F2.FunsAt c K J5 bb (fsOf ls) := ⟨ts, h.lst 3 rfl, tsl, fun i hi => let ⟨b', p, q⟩ := tsi i hi; ⟨b', F2.sqt_same p s5, q.same s5⟩⟩
  have SA : F2.SpotAt c K J5 xs ⟨(Rs.map Prod.fst).map fun x => (x.length : Int), (Rs.map Prod.fst).flatten, place, []⟩ (fsOf ls) := ⟨dxs, D, bb, hn, oe, h.get 0 rfl, by rw [← le]; exact h.lst 4 rfl, hhn, h.lst 5 rfl, h.lst 2 rfl⟩
  have so : FM.SpotOk ⟨(Rs.map Prod.fst).map fun x => (x.length : Int), (Rs.map Prod.fst).flatten, place, []⟩ := ⟨fun v hv => by obtain ⟨y, _, rfl⟩ := List.mem_map.mp hv; exact Int.natCast_nonneg _, sum_flat _, fun v hv => by
    obtain ⟨x, hx, hv⟩ := List.mem_flatten.mp hv
    exact (hRo x hx).2.2 v hv, (fun v hv => nomatch hv), by show Kin place; constructor <;> omega⟩
  have CX : ∀ J oa, Same H J → SqL K J oa (([] : List Int).map V.int) → Cx13 K J ra oa fa place (Rs.map Prod.fst) wd ls ⟨(Rs.map Prod.fst).map fun x => (x.length : Int), (Rs.map Prod.fst).flatten, place, []⟩ := fun J oa s e => ⟨hf.same s, e, rfl, hO, so, hR.same s, rfl, rfl, fun x hx => (hRo x hx).1, hwd.w⟩
  have C0 := CX J5 oe s5 (h.lst 2 rfl)
  have hwf : F2.WF (fsOf ls) ls.length ⟨(Rs.map Prod.fst).map fun x => (x.length : Int), (Rs.map Prod.fst).flatten, place, []⟩ (formOf (hsL ls) (Ps.map Prod.fst)) := by
    have hl : (runF (hsL ls) (Ps.map Prod.fst) []).length = 1 := run_length _ _ [] 1 hV
    have hw := run_wf (fs := fsOf ls) (k := ls.length) (S := ⟨(Rs.map Prod.fst).map fun x => (x.length : Int), (Rs.map Prod.fst).flatten, place, []⟩) (Ps.map Prod.fst) [] 1 (by rw [fs_hands]; exact hV) (fun it hi => by obtain ⟨p, hp, rfl⟩ := List.mem_map.mp hi; exact itg_ok (hG p hp) rfl (Nat.le_refl _) C0.has (by simp)) (fun f hf => nomatch hf)
    rw [fs_hands] at hw
    unfold formOf
    exact hw _ (getD_mem' (by omega))
  have hwo : F2.Worth P w K mg base c CN OU 210 (fsOf ls) ls.length (formOf (hsL ls) (Ps.map Prod.fst)) := (form_works (hs := hsL ls) Wk (Ps.map Prod.fst) (rm := 3 + 41 * 3) (fun a _ _ z => (bodies_works Wk hO (ls.length - 1) a z).mono (by omega)) (by omega) (fun it hi => al_any)).mono (by rw [List.length_map]; omega)
  refine ⟨fx, xs, _, _, fsOf ls, ls.length, rfl, hF.same s5, hwo, SA, so, hwf, fun J6 t h6 => ?_⟩
  have et : J6 t = some (.tup (resV (evL ls ls.length ⟨(Rs.map Prod.fst).map fun x => (x.length : Int), (Rs.map Prod.fst).flatten, place, []⟩ (formOf (hsL ls) (Ps.map Prod.fst))))) := h6.get 0 rfl
  have s6 := h6.sm
  have s06 := s5.trans s6
  have ecl : SqL K J6 cl (((Rs.map Prod.fst).flatten).map V.int) := sql_same (h.lst 6 rfl) s6
  have ehn : SqL K J6 hn (((Rs.map Prod.fst).flatten).map V.int) := sql_same (h.lst 5 rfl) s6
  refine ⟨_, rfl, _, rfl, _, rfl, _, rfl, (by show 0 ≤ sizeLine; decide), fun o2 no2 => ?_⟩
  have s7 : Same J6 (upd J6 o2 (.lst [])) := same_upd (Same.refl _) no2
  have eo2 : upd J6 o2 (.lst []) o2 = some (.lst (([] : List Int).map V.int)) := upd_same
  generalize upd J6 o2 (.lst []) = J7 at s7 eo2 ⊢
  have s07 := s06.trans s7
  refine ⟨_, rfl, pa, ra, o2, fa, place, Ps, Rs.map Prod.fst, wd, ls, ⟨(Rs.map Prod.fst).map fun x => (x.length : Int), (Rs.map Prod.fst).flatten, place, []⟩, 1, rfl, CX J7 o2 s07 (SqL.of eo2), Nat.le_refl _, SqL.of (s07 _ _ hpa), (fun p hp => s07 _ _ (hI p hp)), hG, by omega, hV, Nat.le_refl _, fun J8 t8 s8 e8 => ?_⟩
  have et := s8 _ _ (s7 _ _ et)
  have s68 := s7.trans s8
  generalize evL ls ls.length ⟨(Rs.map Prod.fst).map fun x => (x.length : Int), (Rs.map Prod.fst).flatten, place, []⟩ (formOf (hsL ls) (Ps.map Prod.fst)) = rr at et e8
  refine ⟨d2 rr, d2 rr, d2_dv et, d2_dv e8, d2_lay, d2_lay, d2_dep, _, rfl, ?_⟩
  rw [SeqAt.eqv_refl _ d2_lay]
  refine iteF ?_
  refine ⟨_, rfl, _, rfl, dI ((Rs.map Prod.fst).flatten), dI ((Rs.map Prod.fst).flatten), dv_ints (sql_same ehn s68), dv_ints (sql_same ecl s68), lay_ints, lay_ints, Nat.le_trans dep_ints (by decide), _, rfl, ?_⟩
  rw [SeqAt.eqv_refl _ lay_ints]
  refine iteF ?_
  have fin : Same H J8 := s07.trans s8
  obtain ⟨kd, n, ek, _⟩ := kind_ne (r := rr)
  rw [ek] at et
  refine ⟨_, rfl, t, _, 0, .str kd, rfl, rfl, SqT.of et, rfl, rfl, _, rfl, ?_⟩
  exact ite2 (fun z => q _ fin) (fun z => ⟨_, rfl, t, _, 1, .int n, rfl, rfl, SqT.of et, rfl, n, rfl, q _ fin⟩)
end
end K13
namespace L2
open PySem PySem.Spec PyProof.Rows
theorem op_inK {X : Cx} {K : PySem.W.Frag} (h : X.K = K) : OpR X (compareOp .In) (rIn K false) := h ▸ op_in_seq
end L2
namespace K13
open PySem L2 FM PO
structure BodD where
  n : F2.Fn
  t : Addr
  b : Addr
structure BodAt (c : F2.Cs) (H : Hp) (p : BodD) : Prop where
  t : H p.t = some (.tup [.int (p.n.1 : Int), .ref p.b])
  f : F2.FormAt c H p.n.2 p.b
theorem BodAt.same {c : F2.Cs} {H H' : Hp} {p : BodD} (h : BodAt c H p) (s : Same H H') : BodAt c H' p := ⟨s _ _ h.t, h.f.same s⟩
section
variable {P : Program} {w : World} {K : PySem.W.Frag} {mg : Str → Option Value} {base : Heap}
theorem funs_of {c : F2.Cs} {H : Hp} {ba : Addr} {Us : List BodD} (h : SqL K H ba (Us.map fun p => V.ref p.t)) (a : ∀ p ∈ Us, BodAt c H p) : F2.FunsAt c K H ba (Us.map BodD.n) := by
  refine ⟨Us.map BodD.t, by rw [List.map_map]; exact h, by rw [List.length_map, List.length_map], fun i hi => ?_⟩
  rw [List.length_map] at hi
  have q := a _ (List.getElem_mem hi)
  refine ⟨Us[i].b, ?_, ?_⟩
  · rw [List.getD_eq_getElem?_getD, List.getElem?_map, List.getElem?_eq_getElem hi, List.getD_eq_getElem?_getD, List.getElem?_map, List.getElem?_eq_getElem hi]
    exact SqT.of q.t
  · rw [List.getD_eq_getElem?_getD, List.getElem?_map, List.getElem?_eq_getElem hi]
    exact q.f
def spLaw (K : PySem.W.Frag) : Sp := fun vs H Q _ => ∃ (a : Addr) (ns : List Int), vs = [.ref a] ∧ SqL K H a (ns.map V.int) ∧ ns.length ≤ 63 ∧ ∀ H', Q (.bl true) H'
theorem ok_law {c : F2.Cs} {f : Addr} {fd : FuncData} (F : Fun K "law" "law" s_law f fd) (hlen : mg "len" = none) (hrg : mg "range" = none) (MX : Ok P w K mg base (CXe P w base) 1 "_law_mix" ["_law_cell", "_law_factor", "_law_prime"] spMix) (RB : Ok P w K mg base CX0 2 "_law_rows_by" ["_law_script", "_law_many"] (spRowsBy K)) (FU : Ok P w K mg base CX0 4 "_law_functions_by" ["_law_cells"] (spFunsBy K)) (FO : Ok P w K mg base CX0 4 "_law_form_of" ["_law_post", "_law_functions"] (spFormOf K c)) (PB : Ok P w K mg base CX0 3 "_law_post_by" ["_law_cells", "_law_wide", "_law_lengths", "_law_hands", "_law_functions", "_law_room"] (spPostBy K)) (RI : Ok P w K mg base CX0 212 "_law_right" ["_law_form", "_law_post", "_law_rows", "_law_place", "_law_functions", "_law_bodies"] (spRight K c)) :
    FnOk P w K mg base CX0 213 f fd ["_law_script"] (spLaw K) := by
  refine F.ok sc_law (fun vs H Q E ⟨_, _, e, _⟩ => by rw [e]; rfl) fun cdv A outer s H vs Q E hr h => ?_
  obtain ⟨a, ns, rfl, hS, hn, k⟩ := h
  have nd := sc_law.nd
  have hrR := hr
  have hr1 : Room 1 _ := hr.mono (by decide)
  have hr2 : Room 2 _ := hr.mono (by decide)
  have hr3 : Room 3 _ := hr.mono (by decide)
  have hr4 : Room 4 _ := hr.mono (by decide)
  have SL : (600 : Nat) < sizeLine := by decide
  refine ⟨_, (pss_cons (ps_for PassesOwn.never rfl (pi_range3 rfl hrg (pa_cons pe_int (pa_cons (pe_callB call_len_seq (by rfl) hlen PySem.boot_len (pa_cons (pv 0) pa_nil)) (pa_cons pe_int pa_nil)))) (pg_name (i := 1) nd rfl (Or.inl rfl)) (pss_cons (ps_set (i := 2) nd rfl (Or.inl rfl) (pe_slice sl_list (pv 0) (po_some (pv 1)) (po_some (pe_op op_add (pv 1) pe_int))))
      (pss_cons (ps_mid (ps_set (i := 3) nd rfl (Or.inr rfl) (pe_ifExp (pt_cmpR op_eq (pe_op op_mod (pe_op op_fdiv (pe_ix ix_list (pv 2) pe_int (fun _ _ => rfl)) pe_int) pe_int) pe_int (nomark _)) pe_int (pe_op op_add pe_int (pe_op op_mod (pe_op op_fdiv (pe_ix ix_list (pv 2) pe_int (fun _ _ => rfl)) pe_int) pe_int)))))
      (pss_cons (ps_set (i := 4) nd rfl (Or.inl rfl) (pe_ok RB hr2 (by rfl) pass0 (pa_cons (pv 2) (pa_cons (pv 3) pa_nil))))
      (pss_cons (ps_set (i := 5) nd rfl (Or.inr rfl) (pe_compC ["_law_row"] [none] rfl rfl rfl (pi_list (pv 4)) (fun s3 H3 fp => ⟨pg_name (i := 0) (show ((["_law_row"] : List Str)).Nodup by decide +kernel) rfl (Or.inl rfl), (pe_callB (call_lenK (K := K) rfl) (by rfl) hlen PySem.boot_len (pa_cons (pv 0) pa_nil))⟩)))
      (pss_cons (ps_compF (i := 7) ["_law_row", "_law_lengths", "_law_many"] [none, some 5, some 3] rfl rfl rfl (pi_range1 rfl hrg (pa_cons (pe_callB call_len_seq (by rfl) hlen PySem.boot_len (pa_cons (pv 4) pa_nil)) pa_nil)) (fun s3 H3 fp => ⟨pg_name (i := 0) (show ((["_law_row", "_law_lengths", "_law_many"] : List Str)).Nodup by decide +kernel) rfl (Or.inl rfl), (pt_cmpR (op_inK (K := K) rfl) (pe_ix (ix_listK (K := K) rfl) (pv 1) (pv 0) (fun _ _ => rfl)) (pe_tup (pa_cons (pv 2) (pa_cons pe_int pa_nil))) rfl), (pv 0)⟩) nd rfl (Or.inl rfl))
      (pss_cons (ps_set (i := 8) nd rfl (Or.inr rfl) (pe_ok FU hr4 (by rfl) pass0 (pa_cons (pv 2) pa_nil)))
      (pss_cons (ps_compC (i := 9) ["_law_one", "_law_functions"] [none, some 8] rfl rfl rfl (pi_list (pv 8)) (fun s3 H3 fp => ⟨pg_name (i := 0) (show ((["_law_one", "_law_functions"] : List Str)).Nodup by decide +kernel) rfl (Or.inl rfl), (pe_tup (pa_cons (pe_ix (ix_tupK (K := K) rfl) (pv 0) pe_int (fun _ _ => rfl)) (pa_cons (pe_hide (pe_ok FO hr4 (by rfl) pass0 (pa_cons (pe_ix (ix_tupK (K := K) rfl) (pv 0) pe_int (fun _ _ => rfl)) (pa_cons (pv 1) pa_nil)))) pa_nil)))⟩) nd rfl (Or.inl rfl))
      (pss_cons (ps_compC (i := 11) ["_law_cell"] [none] rfl rfl rfl (pi_list (pv 2)) (fun s3 H3 fp => ⟨pg_name (i := 0) (show ((["_law_cell"] : List Str)).Nodup by decide +kernel) rfl (Or.inl rfl), (pe_ok MX hr1 (by rfl) passF (pa_cons (pv 0) (pa_cons pe_int (pa_cons pe_int pa_nil))))⟩) nd rfl (Or.inl rfl))
      (pss_cons (ps_set (i := 13) nd rfl (Or.inl rfl) (pe_ix ix_tup (pe_ok PB hr3 (by rfl) pass0 (pa_cons (pv 11) (pa_cons (pv 7) (pa_cons (pv 5) (pa_cons pe_int (pa_cons (pv 8) (pa_cons pe_int pa_nil))))))) pe_int (fun _ _ => rfl)))
      (pss_cons (ps_set (i := 14) nd rfl (Or.inl rfl) (pe_ok FO hr4 (by rfl) pass0 (pa_cons (pv 13) (pa_cons (pv 8) pa_nil))))
      (pss_one (ps_for PassesOwn.never rfl (pi_list (pe_lst (pa_cons (pe_op op_mod (pe_ix ix_list (pv 2) (pe_un un_neg pe_int) (fun _ _ => rfl)) (pv 3)) (pa_cons (pe_op op_sub (pv 3) pe_int) pa_nil)))) (pg_name (i := 15) nd rfl (Or.inl rfl)) (pss_one (ps_if (pt_not (pt_val (pe_ok RI hrR (by rfl) pass0 (pa_cons (pv 14) (pa_cons (pv 13) (pa_cons (pv 4) (pa_cons (pv 15) (pa_cons (pv 8) (pa_cons (pv 9) pa_nil))))))))) (pss_one (ps_ret pe_bl)) pss_nil)))))))))))))))
      (pss_one (ps_ret pe_bl))), ?_⟩
  refine ⟨_, rfl, a, _, rfl, .inl hS, 0, _, 12, ((((ns.length : Int) + 12 - 1) / 12).toNat), rfl, ⟨by decide, by decide, by rw [List.length_map]; omega, by rw [List.length_map]; omega, by decide, by decide⟩, (by rw [List.length_map]; exact step_size (by omega) (by decide)), ?_⟩
  refine for_step (lo := 0) (c := 12) (n := ((((ns.length : Int) + 12 - 1) / 12).toNat)) (fun i σ J => ∃ (u1 u2 u3 u4 u5 u6 u7 u8 u9 u10 u11 u12 u13 u14 u15 : Option V), σ = [some (.ref a), u1, u2, u3, u4, u5, u6, u7, u8, u9, u10, u11, u12, u13, u14, u15] ∧ Same H J) ⟨none, none, none, none, none, none, none, none, none, none, none, none, none, none, none, rfl, Same.refl _⟩ ?_ ?_
  · rintro i σ J hi ⟨u1, u2, u3, u4, u5, u6, u7, u8, u9, u10, u11, u12, u13, u14, u15, rfl, sJ⟩
    have hS := sql_same hS sJ
    refine ⟨_, rfl, _, rfl, _, rfl, _, rfl, _, _, rfl, rfl, _, rfl, a, _, rfl, hS, fun sm nsm => ?_⟩
    rw [cutV_int (by omega) (by omega)]
    have i4 : (i : Int) * 12 < ns.length := by omega
    have sl0 : 0 < (cutI ns (0 + (i : Int) * 12) (0 + (i : Int) * 12 + 12)).length ∧ (cutI ns (0 + (i : Int) * 12) (0 + (i : Int) * 12 + 12)).length ≤ 12 := by
      unfold cutI
      rw [List.length_take, List.length_drop]
      omega
    generalize cutI ns (0 + (i : Int) * 12) (0 + (i : Int) * 12 + 12) = so at sl0 ⊢
    have s1 : Same J (upd J sm (.lst (so.map V.int))) := same_upd (Same.refl _) nsm
    have esm : upd J sm (.lst (so.map V.int)) sm = some (.lst (so.map V.int)) := upd_same
    generalize upd J sm (.lst (so.map V.int)) = J1 at s1 esm ⊢
    have sJ := sJ.trans s1
    clear s1 nsm
    have a0 := at_int (ns := so) 0 sl0.1 (show (0 : Int) = ((0 : Nat) : Int) from rfl)
    have aL := at_last sl0.1
    generalize so.getD 0 0 = n0 at a0
    generalize so.getD (so.length - 1) 0 = nl at aL
    refine ⟨fun σ' J' => ∃ mn : Int, σ' = [some (.ref a), some (.int (0 + (i : Int) * 12)), some (.ref sm), some (.int mn), u4, u5, u6, u7, u8, u9, u10, u11, u12, u13, u14, u15] ∧ J' = J1 ∧ 1 ≤ mn ∧ mn ≤ 400, ?_, ?_⟩
    · refine ⟨_, rfl, sm, _, _, _, rfl, rfl, SqL.of esm, a0, _, _, rfl, rfl, ⟨by decide, by decide⟩, _, _, rfl, rfl, (by show (0 : Int) < 8; decide), rfl, _, rfl, ?_⟩
      refine ite2 (fun z => ⟨400, rfl, rfl, by decide, by decide⟩) (fun z => ?_)
      exact ⟨_, rfl, sm, _, _, _, rfl, rfl, SqL.of esm, a0, _, _, rfl, rfl, ⟨by decide, by decide⟩, _, _, rfl, rfl, (by show (0 : Int) < 7; decide), _, _, rfl, rfl, 1 + n0 / 7 % 7, rfl, rfl, by omega, by omega⟩
    rintro σ' J' ⟨mn, rfl, rfl, m1, m4⟩
    refine ⟨_, rfl, _, rfl, sm, mn, so, rfl, SqL.of esm, sl0.1, by omega, m1, m4, fun J2 ra rows s2 hR hRo r1 r6 => ?_⟩
    have sJ := sJ.trans s2
    have esm := s2 _ _ esm
    obtain ⟨Rs, t1, t2, t3⟩ := id hR.ex
    have tlen : Rs.length = rows.length := by rw [t2, List.length_map]
    refine ⟨_, rfl, ra, rfl, ⟨_, t1⟩, _, rfl, fun la nla => ?_⟩
    have h0 : Hd J2 [(la, .lst ((((Rs.take 0).map fun p => (p.1.length : Int))).map V.int))] (upd J2 la (.lst [])) := Hd.base.new nla
    refine comp_list (K := K) (a := ra) (D := la) (xs := Rs.map fun p => V.ref p.2) (fun i σ J => ∃ u, σ = [u] ∧ Hd J2 [(la, .lst ((((Rs.take i).map fun p => (p.1.length : Int))).map V.int))] J) ⟨none, rfl, h0⟩ (fun i σ J _ ⟨_, _, h⟩ => h.sql t1) ?_ ?_
    · clear h0
      rintro i y σ J3 hi ⟨u, rfl, h⟩
      obtain ⟨p, hp', rfl⟩ : ∃ p, Rs[i]? = some p ∧ y = V.ref p.2 := by
        rw [List.getElem?_map] at hi
        cases ez : Rs[i]? with
        | none => rw [ez] at hi; cases hi
        | some z => rw [ez] at hi; exact ⟨z, rfl, by injection hi with hi; exact hi.symm⟩
      have mp := List.mem_of_getElem? hp'
      refine ⟨_, rfl, p.2, _, rfl, .inl (SqL.of (h.sm _ _ (t3 _ mp))), _, h.get 0 rfl, (by rw [List.length_map, List.length_map, List.length_take]; omega), _, rfl, ?_⟩
      rw [List.take_add_one, hp', List.map_append, List.map_append, List.length_map]
      exact h.put 0 rfl
    clear h0
    rintro σ J3 ⟨u, rfl, h⟩
    rw [List.length_map, List.take_length] at h
    have le : (Rs.map fun p => (p.1.length : Int)) = rows.map fun x => (x.length : Int) := by rw [t2, List.map_map]; rfl
    rw [le] at h
    have hla : SqL K J3 la ((rows.map fun x => (x.length : Int)).map V.int) := h.lst 0 rfl
    have s3 := h.sm
    have hR := hR.same s3
    have sJ := sJ.trans s3
    have esm := s3 _ _ esm
    have t1 := sql_same t1 s3
    clear h s3 t3
    refine ⟨_, rfl, ra, _, rfl, .inl t1, _, rfl, (by rw [List.length_map]; omega), (by rw [List.length_map]; omega), ?_⟩
    rw [List.length_map, Int.toNat_natCast]
    refine ⟨_, rfl, fun wa nwa => ?_⟩
    have h0 : Hd J3 [(wa, .lst (([] : List Int).map V.int))] (upd J3 wa (.lst [])) := Hd.base.new nwa
    refine compF_range (n := Rs.length) (fun i σ J => ∃ (u : Option V) (wd : List Int), σ = [u, some (.ref la), some (.int mn)] ∧ wd.length ≤ i ∧ (∀ r ∈ wd, 0 ≤ r ∧ r.toNat < rows.length ∧ (((rows.getD r.toNat []).length : Int) = mn ∨ (rows.getD r.toNat []).length = 1)) ∧ Hd J3 [(wa, .lst (wd.map V.int))] J) ⟨none, [], rfl, Nat.le_refl _, (fun v hv => nomatch hv), h0⟩ ?_ ?_
    · clear h0
      rintro i2 σ J4 hi2 ⟨u, wd, rfl, hl, hg, h⟩
      have i2l : i2 < rows.length := by omega
      have gl : ((rows.map fun x => (x.length : Int))).getD i2 0 = ((rows.getD i2 []).length : Int) := by
        rw [List.getD_eq_getElem?_getD, List.getElem?_map, List.getElem?_eq_getElem i2l, List.getD_eq_getElem?_getD, List.getElem?_eq_getElem i2l]
        rfl
      refine ⟨_, rfl, _, rfl, la, _, _, _, rfl, rfl, h.sql hla, at_int i2 (by rw [List.length_map]; exact i2l) (by omega), ?_⟩
      rw [gl]
      refine ⟨_, rfl, (by show 2 ≤ sizeLine; decide), fun t nt => ?_⟩
      have h := h.new (o := .tup [.int mn, .int 1]) nt
      refine ⟨t, _, rfl, .inr (h.tup 0 rfl), rfl, rfl, _, rfl, ?_⟩
      have iv : inV (V.int ((rows.getD i2 []).length : Int)) [V.int mn, V.int 1] = true → ((rows.getD i2 []).length : Int) = mn ∨ (rows.getD i2 []).length = 1 := by
        unfold inV
        simp [eqV]
        omega
      refine ite2 (fun z => ?_) (fun _ => ⟨_, wd, rfl, by omega, hg, h.tl⟩)
      have h := h.tl
      refine ⟨_, rfl, _, h.get 0 rfl, (by rw [List.length_map]; omega), _, wd ++ [0 + (i2 : Int)], rfl, (by rw [List.length_append]; show wd.length + 1 ≤ i2 + 1; omega), fun r hr => ?_, ?_⟩
      · rcases List.mem_append.mp hr with hr | hr
        · exact hg r hr
        · cases List.mem_singleton.mp hr
          have e : (0 + (i2 : Int)).toNat = i2 := by omega
          rw [e]
          exact ⟨by omega, i2l, iv z⟩
      · rw [List.map_append]; exact h.put 0 rfl
    clear h0
    rintro σ J4 ⟨u', wd, rfl, hwl, hg, h⟩
    have hwa : SqL K J4 wa (wd.map V.int) := h.lst 0 rfl
    have s4 := h.sm
    have hla := sql_same hla s4
    have hR := hR.same s4
    have sJ := sJ.trans s4
    have esm := s4 _ _ esm
    clear h s4 t1
    refine ⟨_, rfl, sm, so, rfl, SqL.of esm, sl0.1, by omega, fun J2 fa ls s2 hf hO l8 => ?_⟩
    have hwa := sql_same hwa s2
    have hla := sql_same hla s2
    have hR := hR.same s2
    have sJ := sJ.trans s2
    have esm := s2 _ _ esm
    clear t2 tlen
    obtain ⟨Ts, t1, t2, t3⟩ := id hf.ex
    have tlen : Ts.length = ls.length := by rw [t2, List.length_map]
    refine ⟨_, rfl, fa, rfl, ⟨_, t1⟩, _, rfl, fun D nD => ?_⟩
    have h0 : Hd J2 [(D, .lst (([] : List BodD).map fun p => V.ref p.t))] (upd J2 D (.lst [])) := Hd.base.new nD
    refine comp_list (K := K) (a := fa) (D := D) (xs := Ts.map fun p => V.ref p.2) (fun i σ J => ∃ (u : Option V) (B : Hp) (Us : List BodD), σ = [u, some (.ref fa)] ∧ Same J2 B ∧ Hd B [(D, .lst (Us.map fun p => V.ref p.t))] J ∧ (∀ p ∈ Us, BodAt c B p) ∧ Us.map BodD.n = (fsOf ls).take i) ⟨none, J2, [], rfl, Same.refl _, h0, (fun p hp => nomatch hp), rfl⟩ (fun i σ J _ ⟨_, _, _, _, sB, h, _⟩ => sql_same t1 (sB.trans h.sm)) ?_ ?_
    · clear h0
      rintro i y σ J3 hi ⟨u, B, Us, rfl, sB, h, hA, hU⟩
      obtain ⟨p, hp', rfl⟩ : ∃ p, Ts[i]? = some p ∧ y = V.ref p.2 := by
        rw [List.getElem?_map] at hi
        cases ez : Ts[i]? with
        | none => rw [ez] at hi; cases hi
        | some z => rw [ez] at hi; exact ⟨z, rfl, by injection hi with hi; exact hi.symm⟩
      have il := (List.getElem?_eq_some_iff.mp hp').1
      have mp := List.mem_of_getElem? hp'
      obtain ⟨f, t⟩ := p
      have efn : ls.getD i ⟨0, [], 0, 0⟩ = f := by
        rw [t2, List.getD_eq_getElem?_getD, List.getElem?_map, hp']
        rfl
      have ok := hO i (by omega)
      rw [efn] at ok
      obtain ⟨pa, Ps, b1, b2, b3, b4⟩ := (t3 _ mp).same sB
      refine ⟨_, rfl, t, _, 0, .int (f.hands : Int), rfl, rfl, SqT.of (h.sm _ _ b1), rfl, hide_at h fun B' sB' => ?_⟩
      refine ⟨_, rfl, t, _, 1, .ref pa, rfl, rfl, SqT.of (sB' _ _ b1), rfl, _, rfl, pa, fa, Ps, ls, [], 0, f.hands, i, 1, rfl, SqL.of (sB' _ _ b2), (fun p hp => sB' _ _ (b4 p hp)), (hf.same (sB.trans sB')), by omega, (fun p hp => ok.g p.1 (by rw [b3]; exact List.mem_map_of_mem hp)), ?_, (by rw [← b3]; exact ok.v), Nat.le_refl _, fun B2 y s2 fy fr => ?_⟩
      · have := ok.n
        rw [b3, List.length_map] at this
        omega
      have h2 : Hd B2 [(D, .lst (Us.map fun p => V.ref p.t))] (upd B2 D (.lst (Us.map fun p => V.ref p.t))) := Hd.base.new fr
      refine ⟨(by show 2 ≤ sizeLine; decide), fun tt ntt => ?_⟩
      have ntB : B2 tt = none := by
        have z := h2.free ntt
        exact z
      have h3 : Hd (upd B2 tt (.tup [.int (f.hands : Int), .ref y])) [(D, .lst (Us.map fun p => V.ref p.t))] (upd (upd B2 D (.lst (Us.map fun p => V.ref p.t))) tt (.tup [.int (f.hands : Int), .ref y])) := by
        have nDt : D ≠ tt := ne_of_none (h2.get 0 rfl) ntt
        refine ⟨by simp, fun p m => ?_, fun p m => ?_, fun b o z => ?_⟩
        · rw [List.mem_singleton.mp m]
          show upd B2 tt _ D = none
          rw [upd_ne nDt]; exact fr
        · rw [List.mem_singleton.mp m]
          show upd _ tt _ D = _
          rw [upd_ne nDt]; exact upd_same
        · by_cases e : b = tt
          · subst e; rw [upd_same] at z ⊢; exact z
          · rw [upd_ne e] at z ⊢
            exact h2.sm _ _ z
      have sB3 : Same B2 (upd B2 tt (.tup [.int (f.hands : Int), .ref y])) := same_upd (Same.refl _) ntB
      refine ⟨_, h3.get 0 rfl, (by rw [List.length_map]; have : Us.length ≤ i := by { have := congrArg List.length hU; rw [List.length_map, List.length_take] at this; omega }; omega), ?_⟩
      have h4 := h3.put (o' := .lst ((Us ++ [(⟨(f.hands, formOf (hsL ls) (Ps.map Prod.fst)), tt, y⟩ : BodD)]).map fun p => V.ref p.t)) 0 rfl
      rw [List.map_append] at h4
      refine ⟨_, _, Us ++ [(⟨(f.hands, formOf (hsL ls) (Ps.map Prod.fst)), tt, y⟩ : BodD)], rfl, sB.trans (sB'.trans (s2.trans sB3)), by rw [List.map_append]; exact h4, fun p hp => ?_, ?_⟩
      · rcases List.mem_append.mp hp with hp | hp
        · exact (hA p hp).same (sB'.trans (s2.trans sB3))
        · cases List.mem_singleton.mp hp
          exact ⟨upd_same, fy.same sB3⟩
      · have il' : i < ls.length := by omega
        have e1 : (fsOf ls)[i]? = some (f.hands, formOf (hsL ls) (Ps.map Prod.fst)) := by
          unfold fsOf
          rw [List.getElem?_map, List.getElem?_eq_getElem il']
          rw [List.getD_eq_getElem?_getD, List.getElem?_eq_getElem il'] at efn
          have efn : ls[i] = f := efn
          rw [efn, ← b3]
          rfl
        rw [List.map_append, hU, List.take_add_one, e1]
        rfl
    clear h0
    rintro σ J3 ⟨u, B, Us, rfl, sB, h, hA, hU⟩
    rw [List.length_map, tlen, ← fs_len, List.take_length] at hU
    have hB : F2.FunsAt c K J3 D (fsOf ls) := by
      rw [← hU]
      exact funs_of (h.lst 0 rfl) fun p hp => (hA p hp).same h.sm
    have s23 := sB.trans h.sm
    have hf := hf.same s23
    have hwa := sql_same hwa s23
    have hla := sql_same hla s23
    have hR := hR.same s23
    have esm := s23 _ _ esm
    have sJ := sJ.trans s23
    clear h hA hU s23 sB t1 t2 t3 tlen
    refine ⟨_, rfl, sm, rfl, ⟨_, SqL.of esm⟩, _, rfl, fun gv ngv => ?_⟩
    have h0 : Hd J3 [(gv, .lst ((((so.take 0).map fun v => v * 6364136223846793005 % 18446744073709551629)).map V.int))] (upd J3 gv (.lst [])) := Hd.base.new ngv
    refine comp_list (K := K) (a := sm) (D := gv) (xs := so.map V.int) (fun i σ J => ∃ u, σ = [u] ∧ Hd J3 [(gv, .lst ((((so.take i).map fun v => v * 6364136223846793005 % 18446744073709551629)).map V.int))] J) ⟨none, rfl, h0⟩ (fun i σ J _ ⟨_, _, h⟩ => h.sql (SqL.of esm)) ?_ ?_
    · clear h0
      rintro i2 y σ J4 hi2 ⟨u, rfl, h⟩
      obtain ⟨hlt, rfl⟩ := map_int_at hi2
      refine ⟨_, rfl, _, _, _, rfl, by decide, by decide, by decide, _, h.get 0 rfl, (by rw [List.length_map, List.length_map, List.length_take]; omega), _, rfl, ?_⟩
      have eg : so.getD i2 0 = so[i2] := by rw [List.getD_eq_getElem?_getD, List.getElem?_eq_getElem hlt]; rfl
      rw [List.take_add_one, List.getElem?_eq_getElem hlt, List.map_append, List.map_append, eg]
      exact h.put 0 rfl
    clear h0
    rintro σ J4 ⟨u'', rfl, h⟩
    rw [List.length_map, List.take_length] at h
    have s4 := h.sm
    have hgv : SqL K J4 gv ((so.map fun v => v * 6364136223846793005 % 18446744073709551629).map V.int) := h.lst 0 rfl
    generalize hgs : (so.map fun v => v * 6364136223846793005 % 18446744073709551629) = gs at hgv
    have gsl : gs.length ≤ 12 := by rw [← hgs, List.length_map]; exact sl0.2
    have hf := hf.same s4
    have hwa := sql_same hwa s4
    have hla := sql_same hla s4
    have hR := hR.same s4
    have hB := hB.same s4
    have esm := s4 _ _ esm
    have sJ := sJ.trans s4
    clear h s4 hgs
    refine ⟨_, rfl, _, rfl, _, rfl, _, rfl, gv, fa, wa, la, wd, rows.map fun x => (x.length : Int), 0, 60, gs, ls, rfl, hgv, by omega, hwa, hla, (fun v hv => by obtain ⟨x, hx, rfl⟩ := List.mem_map.mp hv; have := (hRo x hx).2.1; show Kin (x.length : Int); constructor <;> omega), hf, fun J5 t po Ps sz dp npo s5 et epo hI hG hPl hV => ?_⟩
    rw [List.length_map] at hG
    refine ⟨t, _, 0, .ref po, rfl, rfl, SqT.of et, rfl, ?_⟩
    have hf := hf.same s5
    refine ⟨_, rfl, _, rfl, po, fa, Ps, ls, wd, rows.length, 0, ls.length, 1, rfl, SqL.of epo, hI, hf, Nat.le_refl _, hG, by omega, hV, Nat.le_refl _, fun J6 fx s6 hF => ?_⟩
    have s46 := s5.trans s6
    have hf := hf.same s6
    have hR := hR.same s46
    have hB := hB.same s46
    have esm := s46 _ _ esm
    have sJ := sJ.trans s46
    have epo := s6 _ _ epo
    have hI : ∀ p ∈ Ps, J6 p.2 = some (.tup p.1.v) := fun p hp => s6 _ _ (hI p hp)
    have z0 := Int.emod_nonneg nl (show mn ≠ 0 by omega)
    have z1 := Int.emod_lt_of_pos nl (show 0 < mn by omega)
    refine ⟨_, rfl, _, rfl, sm, _, _, _, rfl, rfl, SqL.of esm, aL, _, rfl, _, _, rfl, rfl, (by show 0 < mn; omega), _, rfl, _, _, rfl, rfl, (by show 2 ≤ sizeLine; decide), fun pl npl => ?_⟩
    have s7 : Same J6 (upd J6 pl (.lst ([nl % mn, mn - 1].map V.int))) := same_upd (Same.refl _) npl
    have epl : upd J6 pl (.lst ([nl % mn, mn - 1].map V.int)) pl = some (.lst ([nl % mn, mn - 1].map V.int)) := upd_same
    revert s7 epl
    show Same J6 (upd J6 pl (.lst [.int (nl % mn), .int (mn - 1)])) → upd J6 pl (.lst [.int (nl % mn), .int (mn - 1)]) pl = some (.lst ([nl % mn, mn - 1].map V.int)) → _
    generalize upd J6 pl (.lst [.int (nl % mn), .int (mn - 1)]) = J7
    intro s7 epl
    have pin : ∀ p ∈ [nl % mn, mn - 1], 0 ≤ p ∧ p < mn := fun p hp => by
      simp only [List.mem_cons, List.not_mem_nil, or_false] at hp
      rcases hp with rfl | rfl <;> omega
    generalize [nl % mn, mn - 1] = pls at epl pin
    refine ⟨pl, rfl, ⟨_, SqL.of epl⟩, ?_⟩
    refine for_list (K := K) (a := pl) (xs := pls.map V.int) (fun i2 σ J => ∃ (u15 : Option V), σ = [some (.ref a), some (.int (0 + (i : Int) * 12)), some (.ref sm), some (.int mn), some (.ref ra), some (.ref la), u6, some (.ref wa), some (.ref fa), some (.ref D), u10, some (.ref gv), u12, some (.ref po), some (.ref fx), u15] ∧ Same J7 J) ⟨_, rfl, Same.refl _⟩ (fun i2 σ J _ ⟨_, _, s⟩ => SqL.of (s _ _ epl)) ?_ ?_
    · rintro i2 y σ J8 hi2 ⟨u15, rfl, s8⟩
      obtain ⟨hlt, rfl⟩ := map_int_at hi2
      obtain ⟨q0, q1⟩ := pin _ (L2.getD_mem hlt)
      generalize pls.getD i2 0 = place at q0 q1
      have s68 := s7.trans s8
      refine ⟨_, rfl, _, rfl, _, rfl, _, rfl, _, rfl, _, rfl, fx, po, ra, fa, D, place, Ps, rows, wd, ls, rfl, hF.same s68, s68 _ _ epo, (fun p hp => s68 _ _ (hI p hp)), hG, by omega, hV, hR.same s68, hRo, r6, ⟨fun r hr => ?_⟩, q0, by omega, hf.same s68, hO, l8, hB.same s68, fun J9 s9 => ⟨true, rfl, iteF ⟨_, rfl, s8.trans s9⟩⟩⟩
      obtain ⟨w0, w1, w2⟩ := hg r hr
      refine ⟨w0, w1, ?_⟩
      rcases w2 with e | e
      · exact .inr ⟨q0, by omega⟩
      · exact .inl e
    · rintro σ J8 ⟨u15, rfl, s8⟩
      exact ⟨_, _, _, _, _, _, _, _, _, _, _, _, _, _, _, rfl, sJ.trans (s7.trans s8)⟩
  · rintro σ J ⟨_, _, _, _, _, _, _, _, _, _, _, _, _, _, _, rfl, _⟩
    exact k _
end
end K13
namespace K13
open PySem L2 FM PO
theorem own_in {K : PySem.W.Frag} {h₀ : Heap} {mg : Str → Option Value} {x : Str} {C : Addr} {bmB : List Value} {newId : String} (X : K.In h₀) (hm : mg x = some (.ref C)) (q : PySem.W.excIn K C bmB newId = true) : PyProof.Rows.OwnCls x C bmB newId mg h₀ := by
  refine ⟨hm, ?_⟩
  unfold PySem.W.excIn at q
  split at q
  · rename_i dd cd sl ho
    split at q
    · rename_i C' bm k0 k1 k2 k3 n k5 hm hs
      simp only [Bool.and_eq_true, beq_iff_eq, Bool.not_eq_true'] at q
      obtain ⟨⟨⟨⟨⟨rfl, rfl⟩, hdel⟩, ht⟩, hok⟩, hni⟩ := q
      obtain ⟨nm, bs, mro, ns, qn, hd, sn, sub, ab, col, del⟩ := cd
      dsimp only at hm hdel hok hni
      subst hm hdel
      obtain rfl : sl = #[k0, k1, k2, k3, some (.builtin n), k5] := by
        obtain ⟨l⟩ := sl
        simp only at hs; rw [hs]
      exact ⟨bm, ns, nm, qn, bs, hd, sn, sub, ab, col, dd, k0, k1, k2, k3, k5, _, X _ _ ho, .of_isNs (PySem.W.isNs_of_in X hok), PySem.W.nsMap_none_of_in X hok hni, PySem.W.tail_of_in X ht⟩
    · cases q
  · cases q
theorem hands_le {ls : List FnL} (ok : LsOk ls) (a : Int) : F2.handsOf (fsOf ls) a ≤ 600 := by
  rw [fs_hands]
  unfold hsL
  by_cases z : a.toNat < ls.length
  · have := (ok a.toNat z).h
    omega
  · rw [List.getD_eq_getElem?_getD, List.getElem?_eq_none (by omega)]
    show 0 ≤ 600
    decide
theorem all_mk {l : PySem.W.OpenLaw} {w : World} {K : PySem.W.Frag} {h : Heap} {mg : Str → Option Value} {fa f_q f_1c f_1b f_1h f_1e f_1d f_1f f_19 f_n f_p f_o f_i f_j f_k f_m f_1g f_1a f_l f_17 f_z f_10 f_15 f_r f_16 f_w f_11 f_x f_t f_u f_s f_y f_12 f_v f_14 f_13 f_18 f_h f_b f_c f_8 f_4 f_5 f_f f_g f_9 f_a f_0 f_1 f_d f_e f_6 f_7 f_2 f_3 C_Spot C_Number C_Here C_Cell C_Shifted C_Local C_At C_Pair C_Choice C_Call : Addr} {CN OU S : Addr} {tH : Tok} {es : Array DictEntry} {nS : Nat} {od_q an_q od_1c an_1c od_1b an_1b od_1h an_1h od_1e an_1e od_1d an_1d od_1f an_1f od_19 an_19 od_n an_n od_p an_p od_o an_o od_i an_i od_j an_j od_k an_k od_m an_m od_1g an_1g od_1a an_1a od_l an_l od_17 an_17 od_z an_z od_10 an_10 od_15 an_15 od_r an_r od_16 an_16 od_w an_w od_11 an_11 od_x an_x od_t an_t od_u an_u od_s an_s od_y an_y od_12 an_12 od_v an_v od_14 an_14 od_13 an_13 od_18 an_18 od_h an_h od_b an_b od_c an_c od_8 an_8 od_4 an_4 od_5 an_5 od_f an_f od_g an_g od_9 an_9 od_a an_a od_0 an_0 od_1 an_1 od_d an_d od_e an_e od_6 an_6 od_7 an_7 od_2 an_2 od_3 an_3 : Option Addr} {sl_q sl_1c sl_1b sl_1h sl_1e sl_1d sl_1f sl_19 sl_n sl_p sl_o sl_i sl_j sl_k sl_m sl_1g sl_1a sl_l sl_17 sl_z sl_10 sl_15 sl_r sl_16 sl_w sl_11 sl_x sl_t sl_u sl_s sl_y sl_12 sl_v sl_14 sl_13 sl_18 sl_h sl_b sl_c sl_8 sl_4 sl_5 sl_f sl_g sl_9 sl_a sl_0 sl_1 sl_d sl_e sl_6 sl_7 sl_2 sl_3 : Array (Option Value)} {oc_q kV_q dc_q pm_q cd_q ct_q oc_1c kV_1c dc_1c pm_1c cd_1c ct_1c oc_1b kV_1b dc_1b pm_1b cd_1b ct_1b oc_1h kV_1h dc_1h pm_1h cd_1h ct_1h oc_1e kV_1e dc_1e pm_1e cd_1e ct_1e oc_1d kV_1d dc_1d pm_1d cd_1d ct_1d oc_1f kV_1f dc_1f pm_1f cd_1f ct_1f oc_19 kV_19 dc_19 pm_19 cd_19 ct_19 oc_n kV_n dc_n pm_n cd_n ct_n oc_p kV_p dc_p pm_p cd_p ct_p oc_o kV_o dc_o pm_o cd_o ct_o oc_i kV_i dc_i pm_i cd_i ct_i oc_j kV_j dc_j pm_j cd_j ct_j oc_k kV_k dc_k pm_k cd_k ct_k oc_m kV_m dc_m pm_m cd_m ct_m oc_1g kV_1g dc_1g pm_1g cd_1g ct_1g oc_1a kV_1a dc_1a pm_1a cd_1a ct_1a oc_l kV_l dc_l pm_l cd_l ct_l oc_17 kV_17 dc_17 pm_17 cd_17 ct_17 oc_z kV_z dc_z pm_z cd_z ct_z oc_10 kV_10 dc_10 pm_10 cd_10 ct_10 oc_15 kV_15 dc_15 pm_15 cd_15 ct_15 oc_r kV_r dc_r pm_r cd_r ct_r oc_16 kV_16 dc_16 pm_16 cd_16 ct_16 oc_w kV_w dc_w pm_w cd_w ct_w oc_11 kV_11 dc_11 pm_11 cd_11 ct_11 oc_x kV_x dc_x pm_x cd_x ct_x oc_t kV_t dc_t pm_t cd_t ct_t oc_u kV_u dc_u pm_u cd_u ct_u oc_s kV_s dc_s pm_s cd_s ct_s oc_y kV_y dc_y pm_y cd_y ct_y oc_12 kV_12 dc_12 pm_12 cd_12 ct_12 oc_v kV_v dc_v pm_v cd_v ct_v oc_14 kV_14 dc_14 pm_14 cd_14 ct_14 oc_13 kV_13 dc_13 pm_13 cd_13 ct_13 oc_18 kV_18 dc_18 pm_18 cd_18 ct_18 oc_h kV_h dc_h pm_h cd_h ct_h oc_b kV_b dc_b pm_b cd_b ct_b oc_c kV_c dc_c pm_c cd_c ct_c oc_8 kV_8 dc_8 pm_8 cd_8 ct_8 oc_4 kV_4 dc_4 pm_4 cd_4 ct_4 oc_5 kV_5 dc_5 pm_5 cd_5 ct_5 oc_f kV_f dc_f pm_f cd_f ct_f oc_g kV_g dc_g pm_g cd_g ct_g oc_9 kV_9 dc_9 pm_9 cd_9 ct_9 oc_a kV_a dc_a pm_a cd_a ct_a oc_0 kV_0 dc_0 pm_0 cd_0 ct_0 oc_1 kV_1 dc_1 pm_1 cd_1 ct_1 oc_d kV_d dc_d pm_d cd_d ct_d oc_e kV_e dc_e pm_e cd_e ct_e oc_6 kV_6 dc_6 pm_6 cd_6 ct_6 oc_7 kV_7 dc_7 pm_7 cd_7 ct_7 oc_2 kV_2 dc_2 pm_2 cd_2 ct_2 oc_3 kV_3 dc_3 pm_3 cd_3 ct_3 : Value} (X : K.In h) (G : h.Ns mainGlobals mg) (hfa : mg "law" = some (.ref fa))
    (a_kept : PySem.W.nsIn K mainGlobals "kept" = some (some (.ref f_q))) (l_q : K.lookup f_q = some ⟨oc_q, od_q, .func (PySem.W.fnOf "kept" "kept" (defArgs s_kept) (defBody s_kept) (defScope s_kept) .none kV_q dc_q pm_q an_q cd_q ct_q), sl_q⟩) (c_q : PySem.W.codeIn K cd_q "kept" = true) (k_q : PySem.W.keepIn K (.ref f_q) = true)
    (a_plus : PySem.W.nsIn K mainGlobals "plus" = some (some (.ref f_1c))) (l_1c : K.lookup f_1c = some ⟨oc_1c, od_1c, .func (PySem.W.fnOf "plus" "plus" (defArgs s_plus) (defBody s_plus) (defScope s_plus) .none kV_1c dc_1c pm_1c an_1c cd_1c ct_1c), sl_1c⟩) (c_1c : PySem.W.codeIn K cd_1c "plus" = true) (k_1c : PySem.W.keepIn K (.ref f_1c) = true)
    (a_minus : PySem.W.nsIn K mainGlobals "minus" = some (some (.ref f_1b))) (l_1b : K.lookup f_1b = some ⟨oc_1b, od_1b, .func (PySem.W.fnOf "minus" "minus" (defArgs s_minus) (defBody s_minus) (defScope s_minus) .none kV_1b dc_1b pm_1b an_1b cd_1b ct_1b), sl_1b⟩) (c_1b : PySem.W.codeIn K cd_1b "minus" = true) (k_1b : PySem.W.keepIn K (.ref f_1b) = true)
    (a_times : PySem.W.nsIn K mainGlobals "times" = some (some (.ref f_1h))) (l_1h : K.lookup f_1h = some ⟨oc_1h, od_1h, .func (PySem.W.fnOf "times" "times" (defArgs s_times) (defBody s_times) (defScope s_times) .none kV_1h dc_1h pm_1h an_1h cd_1h ct_1h), sl_1h⟩) (c_1h : PySem.W.codeIn K cd_1h "times" = true) (k_1h : PySem.W.keepIn K (.ref f_1h) = true)
    (a_refuse_nought : PySem.W.nsIn K mainGlobals "refuse_nought" = some (some (.ref f_1e))) (l_1e : K.lookup f_1e = some ⟨oc_1e, od_1e, .func (PySem.W.fnOf "refuse_nought" "refuse_nought" (defArgs s_refuse_nought) (defBody s_refuse_nought) (defScope s_refuse_nought) .none kV_1e dc_1e pm_1e an_1e cd_1e ct_1e), sl_1e⟩) (c_1e : PySem.W.codeIn K cd_1e "refuse_nought" = true) (k_1e : PySem.W.keepIn K (.ref f_1e) = true)
    (a_quotient : PySem.W.nsIn K mainGlobals "quotient" = some (some (.ref f_1d))) (l_1d : K.lookup f_1d = some ⟨oc_1d, od_1d, .func (PySem.W.fnOf "quotient" "quotient" (defArgs s_quotient) (defBody s_quotient) (defScope s_quotient) .none kV_1d dc_1d pm_1d an_1d cd_1d ct_1d), sl_1d⟩) (c_1d : PySem.W.codeIn K cd_1d "quotient" = true) (k_1d : PySem.W.keepIn K (.ref f_1d) = true)
    (a_remainder : PySem.W.nsIn K mainGlobals "remainder" = some (some (.ref f_1f))) (l_1f : K.lookup f_1f = some ⟨oc_1f, od_1f, .func (PySem.W.fnOf "remainder" "remainder" (defArgs s_remainder) (defBody s_remainder) (defScope s_remainder) .none kV_1f dc_1f pm_1f an_1f cd_1f ct_1f), sl_1f⟩) (c_1f : PySem.W.codeIn K cd_1f "remainder" = true) (k_1f : PySem.W.keepIn K (.ref f_1f) = true)
    (a_lesser : PySem.W.nsIn K mainGlobals "lesser" = some (some (.ref f_19))) (l_19 : K.lookup f_19 = some ⟨oc_19, od_19, .func (PySem.W.fnOf "lesser" "lesser" (defArgs s_lesser) (defBody s_lesser) (defScope s_lesser) .none kV_19 dc_19 pm_19 an_19 cd_19 ct_19), sl_19⟩) (c_19 : PySem.W.codeIn K cd_19 "lesser" = true) (k_19 : PySem.W.keepIn K (.ref f_19) = true)
    (a_greater : PySem.W.nsIn K mainGlobals "greater" = some (some (.ref f_n))) (l_n : K.lookup f_n = some ⟨oc_n, od_n, .func (PySem.W.fnOf "greater" "greater" (defArgs s_greater) (defBody s_greater) (defScope s_greater) .none kV_n dc_n pm_n an_n cd_n ct_n), sl_n⟩) (c_n : PySem.W.codeIn K cd_n "greater" = true) (k_n : PySem.W.keepIn K (.ref f_n) = true)
    (a_is_less : PySem.W.nsIn K mainGlobals "is_less" = some (some (.ref f_p))) (l_p : K.lookup f_p = some ⟨oc_p, od_p, .func (PySem.W.fnOf "is_less" "is_less" (defArgs s_is_less) (defBody s_is_less) (defScope s_is_less) .none kV_p dc_p pm_p an_p cd_p ct_p), sl_p⟩) (c_p : PySem.W.codeIn K cd_p "is_less" = true) (k_p : PySem.W.keepIn K (.ref f_p) = true)
    (a_is_equal : PySem.W.nsIn K mainGlobals "is_equal" = some (some (.ref f_o))) (l_o : K.lookup f_o = some ⟨oc_o, od_o, .func (PySem.W.fnOf "is_equal" "is_equal" (defArgs s_is_equal) (defBody s_is_equal) (defScope s_is_equal) .none kV_o dc_o pm_o an_o cd_o ct_o), sl_o⟩) (c_o : PySem.W.codeIn K cd_o "is_equal" = true) (k_o : PySem.W.keepIn K (.ref f_o) = true)
    (a_bits_of_both : PySem.W.nsIn K mainGlobals "bits_of_both" = some (some (.ref f_i))) (l_i : K.lookup f_i = some ⟨oc_i, od_i, .func (PySem.W.fnOf "bits_of_both" "bits_of_both" (defArgs s_bits_of_both) (defBody s_bits_of_both) (defScope s_bits_of_both) .none kV_i dc_i pm_i an_i cd_i ct_i), sl_i⟩) (c_i : PySem.W.codeIn K cd_i "bits_of_both" = true) (k_i : PySem.W.keepIn K (.ref f_i) = true)
    (a_bits_of_either : PySem.W.nsIn K mainGlobals "bits_of_either" = some (some (.ref f_j))) (l_j : K.lookup f_j = some ⟨oc_j, od_j, .func (PySem.W.fnOf "bits_of_either" "bits_of_either" (defArgs s_bits_of_either) (defBody s_bits_of_either) (defScope s_bits_of_either) .none kV_j dc_j pm_j an_j cd_j ct_j), sl_j⟩) (c_j : PySem.W.codeIn K cd_j "bits_of_either" = true) (k_j : PySem.W.keepIn K (.ref f_j) = true)
    (a_bits_of_one : PySem.W.nsIn K mainGlobals "bits_of_one" = some (some (.ref f_k))) (l_k : K.lookup f_k = some ⟨oc_k, od_k, .func (PySem.W.fnOf "bits_of_one" "bits_of_one" (defArgs s_bits_of_one) (defBody s_bits_of_one) (defScope s_bits_of_one) .none kV_k dc_k pm_k an_k cd_k ct_k), sl_k⟩) (c_k : PySem.W.codeIn K cd_k "bits_of_one" = true) (k_k : PySem.W.keepIn K (.ref f_k) = true)
    (a_done : PySem.W.nsIn K mainGlobals "done" = some (some (.ref f_m))) (l_m : K.lookup f_m = some ⟨oc_m, od_m, .func (PySem.W.fnOf "done" "done" (defArgs s_done) (defBody s_done) (defScope s_done) .none kV_m dc_m pm_m an_m cd_m ct_m), sl_m⟩) (c_m : PySem.W.codeIn K cd_m "done" = true) (k_m : PySem.W.keepIn K (.ref f_m) = true)
    (a_start_of : PySem.W.nsIn K mainGlobals "start_of" = some (some (.ref f_1g))) (l_1g : K.lookup f_1g = some ⟨oc_1g, od_1g, .func (PySem.W.fnOf "start_of" "start_of" (defArgs s_start_of) (defBody s_start_of) (defScope s_start_of) .none kV_1g dc_1g pm_1g an_1g cd_1g ct_1g), sl_1g⟩) (c_1g : PySem.W.codeIn K cd_1g "start_of" = true) (k_1g : PySem.W.keepIn K (.ref f_1g) = true)
    (a_lies_in : PySem.W.nsIn K mainGlobals "lies_in" = some (some (.ref f_1a))) (l_1a : K.lookup f_1a = some ⟨oc_1a, od_1a, .func (PySem.W.fnOf "lies_in" "lies_in" (defArgs s_lies_in) (defBody s_lies_in) (defScope s_lies_in) .none kV_1a dc_1a pm_1a an_1a cd_1a ct_1a), sl_1a⟩) (c_1a : PySem.W.codeIn K cd_1a "lies_in" = true) (k_1a : PySem.W.keepIn K (.ref f_1a) = true)
    (a_cell_at : PySem.W.nsIn K mainGlobals "cell_at" = some (some (.ref f_l))) (l_l : K.lookup f_l = some ⟨oc_l, od_l, .func (PySem.W.fnOf "cell_at" "cell_at" (defArgs s_cell_at) (defBody s_cell_at) (defScope s_cell_at) .none kV_l dc_l pm_l an_l cd_l ct_l), sl_l⟩) (c_l : PySem.W.codeIn K cd_l "cell_at" = true) (k_l : PySem.W.keepIn K (.ref f_l) = true)
    (a_l_whole : PySem.W.nsIn K mainGlobals "_law_whole" = some (some (.ref f_17))) (l_17 : K.lookup f_17 = some ⟨oc_17, od_17, .func (PySem.W.fnOf "_law_whole" "_law_whole" (defArgs s_l_whole) (defBody s_l_whole) (defScope s_l_whole) .none kV_17 dc_17 pm_17 an_17 cd_17 ct_17), sl_17⟩) (c_17 : PySem.W.codeIn K cd_17 "_law_whole" = true) (k_17 : PySem.W.keepIn K (.ref f_17) = true)
    (a_l_kept_by : PySem.W.nsIn K mainGlobals "_law_kept_by" = some (some (.ref f_z))) (l_z : K.lookup f_z = some ⟨oc_z, od_z, .func (PySem.W.fnOf "_law_kept_by" "_law_kept_by" (defArgs s_l_kept_by) (defBody s_l_kept_by) (defScope s_l_kept_by) .none kV_z dc_z pm_z an_z cd_z ct_z), sl_z⟩) (c_z : PySem.W.codeIn K cd_z "_law_kept_by" = true) (k_z : PySem.W.keepIn K (.ref f_z) = true)
    (a_l_mix : PySem.W.nsIn K mainGlobals "_law_mix" = some (some (.ref f_10))) (l_10 : K.lookup f_10 = some ⟨oc_10, od_10, .func (PySem.W.fnOf "_law_mix" "_law_mix" (defArgs s_l_mix) (defBody s_l_mix) (defScope s_l_mix) .none kV_10 dc_10 pm_10 an_10 cd_10 ct_10), sl_10⟩) (c_10 : PySem.W.codeIn K cd_10 "_law_mix" = true) (k_10 : PySem.W.keepIn K (.ref f_10) = true)
    (a_l_signed : PySem.W.nsIn K mainGlobals "_law_signed" = some (some (.ref f_15))) (l_15 : K.lookup f_15 = some ⟨oc_15, od_15, .func (PySem.W.fnOf "_law_signed" "_law_signed" (defArgs s_l_signed) (defBody s_l_signed) (defScope s_l_signed) .none kV_15 dc_15 pm_15 an_15 cd_15 ct_15), sl_15⟩) (c_15 : PySem.W.codeIn K cd_15 "_law_signed" = true) (k_15 : PySem.W.keepIn K (.ref f_15) = true)
    (a_l_asked : PySem.W.nsIn K mainGlobals "_law_asked" = some (some (.ref f_r))) (l_r : K.lookup f_r = some ⟨oc_r, od_r, .func (PySem.W.fnOf "_law_asked" "_law_asked" (defArgs s_l_asked) (defBody s_l_asked) (defScope s_l_asked) .none kV_r dc_r pm_r an_r cd_r ct_r), sl_r⟩) (c_r : PySem.W.codeIn K cd_r "_law_asked" = true) (k_r : PySem.W.keepIn K (.ref f_r) = true)
    (a_l_takes : PySem.W.nsIn K mainGlobals "_law_takes" = some (some (.ref f_16))) (l_16 : K.lookup f_16 = some ⟨oc_16, od_16, .func (PySem.W.fnOf "_law_takes" "_law_takes" (defArgs s_l_takes) (defBody s_l_takes) (defScope s_l_takes) .none kV_16 dc_16 pm_16 an_16 cd_16 ct_16), sl_16⟩) (c_16 : PySem.W.codeIn K cd_16 "_law_takes" = true) (k_16 : PySem.W.keepIn K (.ref f_16) = true)
    (a_l_grown : PySem.W.nsIn K mainGlobals "_law_grown" = some (some (.ref f_w))) (l_w : K.lookup f_w = some ⟨oc_w, od_w, .func (PySem.W.fnOf "_law_grown" "_law_grown" (defArgs s_l_grown) (defBody s_l_grown) (defScope s_l_grown) .none kV_w dc_w pm_w an_w cd_w ct_w), sl_w⟩) (c_w : PySem.W.codeIn K cd_w "_law_grown" = true) (k_w : PySem.W.keepIn K (.ref f_w) = true)
    (a_l_post_by : PySem.W.nsIn K mainGlobals "_law_post_by" = some (some (.ref f_11))) (l_11 : K.lookup f_11 = some ⟨oc_11, od_11, .func (PySem.W.fnOf "_law_post_by" "_law_post_by" (defArgs s_l_post_by) (defBody s_l_post_by) (defScope s_l_post_by) .none kV_11 dc_11 pm_11 an_11 cd_11 ct_11), sl_11⟩) (c_11 : PySem.W.codeIn K cd_11 "_law_post_by" = true) (k_11 : PySem.W.keepIn K (.ref f_11) = true)
    (a_l_items_by : PySem.W.nsIn K mainGlobals "_law_items_by" = some (some (.ref f_x))) (l_x : K.lookup f_x = some ⟨oc_x, od_x, .func (PySem.W.fnOf "_law_items_by" "_law_items_by" (defArgs s_l_items_by) (defBody s_l_items_by) (defScope s_l_items_by) .none kV_x dc_x pm_x an_x cd_x ct_x), sl_x⟩) (c_x : PySem.W.codeIn K cd_x "_law_items_by" = true) (k_x : PySem.W.keepIn K (.ref f_x) = true)
    (a_l_form_by : PySem.W.nsIn K mainGlobals "_law_form_by" = some (some (.ref f_t))) (l_t : K.lookup f_t = some ⟨oc_t, od_t, .func (PySem.W.fnOf "_law_form_by" "_law_form_by" (defArgs s_l_form_by) (defBody s_l_form_by) (defScope s_l_form_by) .none kV_t dc_t pm_t an_t cd_t ct_t), sl_t⟩) (c_t : PySem.W.codeIn K cd_t "_law_form_by" = true) (k_t : PySem.W.keepIn K (.ref f_t) = true)
    (a_l_form_of : PySem.W.nsIn K mainGlobals "_law_form_of" = some (some (.ref f_u))) (l_u : K.lookup f_u = some ⟨oc_u, od_u, .func (PySem.W.fnOf "_law_form_of" "_law_form_of" (defArgs s_l_form_of) (defBody s_l_form_of) (defScope s_l_form_of) .none kV_u dc_u pm_u an_u cd_u ct_u), sl_u⟩) (c_u : PySem.W.codeIn K cd_u "_law_form_of" = true) (k_u : PySem.W.keepIn K (.ref f_u) = true)
    (a_l_cell_due : PySem.W.nsIn K mainGlobals "_law_cell_due" = some (some (.ref f_s))) (l_s : K.lookup f_s = some ⟨oc_s, od_s, .func (PySem.W.fnOf "_law_cell_due" "_law_cell_due" (defArgs s_l_cell_due) (defBody s_l_cell_due) (defScope s_l_cell_due) .none kV_s dc_s pm_s an_s cd_s ct_s), sl_s⟩) (c_s : PySem.W.codeIn K cd_s "_law_cell_due" = true) (k_s : PySem.W.keepIn K (.ref f_s) = true)
    (a_l_joined : PySem.W.nsIn K mainGlobals "_law_joined" = some (some (.ref f_y))) (l_y : K.lookup f_y = some ⟨oc_y, od_y, .func (PySem.W.fnOf "_law_joined" "_law_joined" (defArgs s_l_joined) (defBody s_l_joined) (defScope s_l_joined) .none kV_y dc_y pm_y an_y cd_y ct_y), sl_y⟩) (c_y : PySem.W.codeIn K cd_y "_law_joined" = true) (k_y : PySem.W.keepIn K (.ref f_y) = true)
    (a_l_result : PySem.W.nsIn K mainGlobals "_law_result" = some (some (.ref f_12))) (l_12 : K.lookup f_12 = some ⟨oc_12, od_12, .func (PySem.W.fnOf "_law_result" "_law_result" (defArgs s_l_result) (defBody s_l_result) (defScope s_l_result) .none kV_12 dc_12 pm_12 an_12 cd_12 ct_12), sl_12⟩) (c_12 : PySem.W.codeIn K cd_12 "_law_result" = true) (k_12 : PySem.W.keepIn K (.ref f_12) = true)
    (a_l_functions_by : PySem.W.nsIn K mainGlobals "_law_functions_by" = some (some (.ref f_v))) (l_v : K.lookup f_v = some ⟨oc_v, od_v, .func (PySem.W.fnOf "_law_functions_by" "_law_functions_by" (defArgs s_l_functions_by) (defBody s_l_functions_by) (defScope s_l_functions_by) .none kV_v dc_v pm_v an_v cd_v ct_v), sl_v⟩) (c_v : PySem.W.codeIn K cd_v "_law_functions_by" = true) (k_v : PySem.W.keepIn K (.ref f_v) = true)
    (a_l_rows_by : PySem.W.nsIn K mainGlobals "_law_rows_by" = some (some (.ref f_14))) (l_14 : K.lookup f_14 = some ⟨oc_14, od_14, .func (PySem.W.fnOf "_law_rows_by" "_law_rows_by" (defArgs s_l_rows_by) (defBody s_l_rows_by) (defScope s_l_rows_by) .none kV_14 dc_14 pm_14 an_14 cd_14 ct_14), sl_14⟩) (c_14 : PySem.W.codeIn K cd_14 "_law_rows_by" = true) (k_14 : PySem.W.keepIn K (.ref f_14) = true)
    (a_l_right : PySem.W.nsIn K mainGlobals "_law_right" = some (some (.ref f_13))) (l_13 : K.lookup f_13 = some ⟨oc_13, od_13, .func (PySem.W.fnOf "_law_right" "_law_right" (defArgs s_l_right) (defBody s_l_right) (defScope s_l_right) .none kV_13 dc_13 pm_13 an_13 cd_13 ct_13), sl_13⟩) (c_13 : PySem.W.codeIn K cd_13 "_law_right" = true) (k_13 : PySem.W.keepIn K (.ref f_13) = true)
    (a_law : PySem.W.nsIn K mainGlobals "law" = some (some (.ref f_18))) (l_18 : K.lookup f_18 = some ⟨oc_18, od_18, .func (PySem.W.fnOf "law" "law" (defArgs s_law) (defBody s_law) (defScope s_law) .none kV_18 dc_18 pm_18 an_18 cd_18 ct_18), sl_18⟩) (c_18 : PySem.W.codeIn K cd_18 "law" = true) (k_18 : PySem.W.keepIn K (.ref f_18) = true)
    (a_C_Spot : PySem.W.nsIn K mainGlobals "Spot" = some (some (.ref C_Spot))) (c1_C_Spot : PySem.W.plainGet K C_Spot Str.empty = true) (c2_C_Spot : PySem.W.hasDictIn K C_Spot = true) (c3_C_Spot : PySem.W.plainOver K C_Spot = true) (c4_C_Spot : PySem.W.findIn K (.ref C_Spot) "__setattr__" = some (some (.builtin "object.__setattr__")))
    (n_C_Spot_lengths : PySem.W.findIn K (.ref C_Spot) "lengths" = some none)
    (n_C_Spot_functions : PySem.W.findIn K (.ref C_Spot) "functions" = some none)
    (n_C_Spot_cells : PySem.W.findIn K (.ref C_Spot) "cells" = some none)
    (n_C_Spot_place : PySem.W.findIn K (.ref C_Spot) "place" = some none)
    (n_C_Spot_own : PySem.W.findIn K (.ref C_Spot) "own" = some none)
    (mk_C_Spot : PySem.W.makesIn K C_Spot = true) (kC_C_Spot : PySem.W.keepIn K (.ref C_Spot) = true)
    (at_h : PySem.W.findIn K (.ref C_Spot) "__init__" = some (some (.ref f_h))) (fn_h : PySem.W.isFn K (.ref f_h) = true) (l_h : K.lookup f_h = some ⟨oc_h, od_h, .func (PySem.W.fnOf "__init__" "Spot.__init__" (defArgs s_Spot_init) (defBody s_Spot_init) (defScope s_Spot_init) .none kV_h dc_h pm_h an_h cd_h ct_h), sl_h⟩) (c_h : PySem.W.codeIn K cd_h "Spot.__init__" = true) (k_h : PySem.W.keepIn K (.ref f_h) = true)
    (a_C_Number : PySem.W.nsIn K mainGlobals "Number" = some (some (.ref C_Number))) (c1_C_Number : PySem.W.plainGet K C_Number Str.empty = true) (c2_C_Number : PySem.W.hasDictIn K C_Number = true) (c3_C_Number : PySem.W.plainOver K C_Number = true) (c4_C_Number : PySem.W.findIn K (.ref C_Number) "__setattr__" = some (some (.builtin "object.__setattr__")))
    (n_C_Number_number : PySem.W.findIn K (.ref C_Number) "number" = some none)
    (mk_C_Number : PySem.W.makesIn K C_Number = true) (kC_C_Number : PySem.W.keepIn K (.ref C_Number) = true)
    (at_b : PySem.W.findIn K (.ref C_Number) "__init__" = some (some (.ref f_b))) (fn_b : PySem.W.isFn K (.ref f_b) = true) (l_b : K.lookup f_b = some ⟨oc_b, od_b, .func (PySem.W.fnOf "__init__" "Number.__init__" (defArgs s_Number_init) (defBody s_Number_init) (defScope s_Number_init) .none kV_b dc_b pm_b an_b cd_b ct_b), sl_b⟩) (c_b : PySem.W.codeIn K cd_b "Number.__init__" = true) (k_b : PySem.W.keepIn K (.ref f_b) = true)
    (at_c : PySem.W.findIn K (.ref C_Number) "worth" = some (some (.ref f_c))) (fn_c : PySem.W.isFn K (.ref f_c) = true) (l_c : K.lookup f_c = some ⟨oc_c, od_c, .func (PySem.W.fnOf "worth" "Number.worth" (defArgs s_Number_worth) (defBody s_Number_worth) (defScope s_Number_worth) .none kV_c dc_c pm_c an_c cd_c ct_c), sl_c⟩) (c_c : PySem.W.codeIn K cd_c "Number.worth" = true) (k_c : PySem.W.keepIn K (.ref f_c) = true)
    (a_C_Here : PySem.W.nsIn K mainGlobals "Here" = some (some (.ref C_Here))) (c1_C_Here : PySem.W.plainGet K C_Here Str.empty = true) (c2_C_Here : PySem.W.hasDictIn K C_Here = true) (c3_C_Here : PySem.W.plainOver K C_Here = true) (c4_C_Here : PySem.W.findIn K (.ref C_Here) "__setattr__" = some (some (.builtin "object.__setattr__")))
    (mk_C_Here : PySem.W.makesIn K C_Here = true) (kC_C_Here : PySem.W.keepIn K (.ref C_Here) = true) (in_C_Here : PySem.W.findIn K (.ref C_Here) "__init__" = some (some (.builtin "object.__init__")))
    (at_8 : PySem.W.findIn K (.ref C_Here) "worth" = some (some (.ref f_8))) (fn_8 : PySem.W.isFn K (.ref f_8) = true) (l_8 : K.lookup f_8 = some ⟨oc_8, od_8, .func (PySem.W.fnOf "worth" "Here.worth" (defArgs s_Here_worth) (defBody s_Here_worth) (defScope s_Here_worth) .none kV_8 dc_8 pm_8 an_8 cd_8 ct_8), sl_8⟩) (c_8 : PySem.W.codeIn K cd_8 "Here.worth" = true) (k_8 : PySem.W.keepIn K (.ref f_8) = true)
    (a_C_Cell : PySem.W.nsIn K mainGlobals "Cell" = some (some (.ref C_Cell))) (c1_C_Cell : PySem.W.plainGet K C_Cell Str.empty = true) (c2_C_Cell : PySem.W.hasDictIn K C_Cell = true) (c3_C_Cell : PySem.W.plainOver K C_Cell = true) (c4_C_Cell : PySem.W.findIn K (.ref C_Cell) "__setattr__" = some (some (.builtin "object.__setattr__")))
    (n_C_Cell_row : PySem.W.findIn K (.ref C_Cell) "row" = some none)
    (mk_C_Cell : PySem.W.makesIn K C_Cell = true) (kC_C_Cell : PySem.W.keepIn K (.ref C_Cell) = true)
    (at_4 : PySem.W.findIn K (.ref C_Cell) "__init__" = some (some (.ref f_4))) (fn_4 : PySem.W.isFn K (.ref f_4) = true) (l_4 : K.lookup f_4 = some ⟨oc_4, od_4, .func (PySem.W.fnOf "__init__" "Cell.__init__" (defArgs s_Cell_init) (defBody s_Cell_init) (defScope s_Cell_init) .none kV_4 dc_4 pm_4 an_4 cd_4 ct_4), sl_4⟩) (c_4 : PySem.W.codeIn K cd_4 "Cell.__init__" = true) (k_4 : PySem.W.keepIn K (.ref f_4) = true)
    (at_5 : PySem.W.findIn K (.ref C_Cell) "worth" = some (some (.ref f_5))) (fn_5 : PySem.W.isFn K (.ref f_5) = true) (l_5 : K.lookup f_5 = some ⟨oc_5, od_5, .func (PySem.W.fnOf "worth" "Cell.worth" (defArgs s_Cell_worth) (defBody s_Cell_worth) (defScope s_Cell_worth) .none kV_5 dc_5 pm_5 an_5 cd_5 ct_5), sl_5⟩) (c_5 : PySem.W.codeIn K cd_5 "Cell.worth" = true) (k_5 : PySem.W.keepIn K (.ref f_5) = true)
    (a_C_Shifted : PySem.W.nsIn K mainGlobals "Shifted" = some (some (.ref C_Shifted))) (c1_C_Shifted : PySem.W.plainGet K C_Shifted Str.empty = true) (c2_C_Shifted : PySem.W.hasDictIn K C_Shifted = true) (c3_C_Shifted : PySem.W.plainOver K C_Shifted = true) (c4_C_Shifted : PySem.W.findIn K (.ref C_Shifted) "__setattr__" = some (some (.builtin "object.__setattr__")))
    (n_C_Shifted_row : PySem.W.findIn K (.ref C_Shifted) "row" = some none)
    (n_C_Shifted_by : PySem.W.findIn K (.ref C_Shifted) "by" = some none)
    (n_C_Shifted_other : PySem.W.findIn K (.ref C_Shifted) "other" = some none)
    (mk_C_Shifted : PySem.W.makesIn K C_Shifted = true) (kC_C_Shifted : PySem.W.keepIn K (.ref C_Shifted) = true)
    (at_f : PySem.W.findIn K (.ref C_Shifted) "__init__" = some (some (.ref f_f))) (fn_f : PySem.W.isFn K (.ref f_f) = true) (l_f : K.lookup f_f = some ⟨oc_f, od_f, .func (PySem.W.fnOf "__init__" "Shifted.__init__" (defArgs s_Shifted_init) (defBody s_Shifted_init) (defScope s_Shifted_init) .none kV_f dc_f pm_f an_f cd_f ct_f), sl_f⟩) (c_f : PySem.W.codeIn K cd_f "Shifted.__init__" = true) (k_f : PySem.W.keepIn K (.ref f_f) = true)
    (at_g : PySem.W.findIn K (.ref C_Shifted) "worth" = some (some (.ref f_g))) (fn_g : PySem.W.isFn K (.ref f_g) = true) (l_g : K.lookup f_g = some ⟨oc_g, od_g, .func (PySem.W.fnOf "worth" "Shifted.worth" (defArgs s_Shifted_worth) (defBody s_Shifted_worth) (defScope s_Shifted_worth) .none kV_g dc_g pm_g an_g cd_g ct_g), sl_g⟩) (c_g : PySem.W.codeIn K cd_g "Shifted.worth" = true) (k_g : PySem.W.keepIn K (.ref f_g) = true)
    (a_C_Local : PySem.W.nsIn K mainGlobals "Local" = some (some (.ref C_Local))) (c1_C_Local : PySem.W.plainGet K C_Local Str.empty = true) (c2_C_Local : PySem.W.hasDictIn K C_Local = true) (c3_C_Local : PySem.W.plainOver K C_Local = true) (c4_C_Local : PySem.W.findIn K (.ref C_Local) "__setattr__" = some (some (.builtin "object.__setattr__")))
    (n_C_Local_at : PySem.W.findIn K (.ref C_Local) "at" = some none)
    (mk_C_Local : PySem.W.makesIn K C_Local = true) (kC_C_Local : PySem.W.keepIn K (.ref C_Local) = true)
    (at_9 : PySem.W.findIn K (.ref C_Local) "__init__" = some (some (.ref f_9))) (fn_9 : PySem.W.isFn K (.ref f_9) = true) (l_9 : K.lookup f_9 = some ⟨oc_9, od_9, .func (PySem.W.fnOf "__init__" "Local.__init__" (defArgs s_Local_init) (defBody s_Local_init) (defScope s_Local_init) .none kV_9 dc_9 pm_9 an_9 cd_9 ct_9), sl_9⟩) (c_9 : PySem.W.codeIn K cd_9 "Local.__init__" = true) (k_9 : PySem.W.keepIn K (.ref f_9) = true)
    (at_a : PySem.W.findIn K (.ref C_Local) "worth" = some (some (.ref f_a))) (fn_a : PySem.W.isFn K (.ref f_a) = true) (l_a : K.lookup f_a = some ⟨oc_a, od_a, .func (PySem.W.fnOf "worth" "Local.worth" (defArgs s_Local_worth) (defBody s_Local_worth) (defScope s_Local_worth) .none kV_a dc_a pm_a an_a cd_a ct_a), sl_a⟩) (c_a : PySem.W.codeIn K cd_a "Local.worth" = true) (k_a : PySem.W.keepIn K (.ref f_a) = true)
    (a_C_At : PySem.W.nsIn K mainGlobals "At" = some (some (.ref C_At))) (c1_C_At : PySem.W.plainGet K C_At Str.empty = true) (c2_C_At : PySem.W.hasDictIn K C_At = true) (c3_C_At : PySem.W.plainOver K C_At = true) (c4_C_At : PySem.W.findIn K (.ref C_At) "__setattr__" = some (some (.builtin "object.__setattr__")))
    (n_C_At_row : PySem.W.findIn K (.ref C_At) "row" = some none)
    (n_C_At_place : PySem.W.findIn K (.ref C_At) "place" = some none)
    (mk_C_At : PySem.W.makesIn K C_At = true) (kC_C_At : PySem.W.keepIn K (.ref C_At) = true)
    (at_0 : PySem.W.findIn K (.ref C_At) "__init__" = some (some (.ref f_0))) (fn_0 : PySem.W.isFn K (.ref f_0) = true) (l_0 : K.lookup f_0 = some ⟨oc_0, od_0, .func (PySem.W.fnOf "__init__" "At.__init__" (defArgs s_At_init) (defBody s_At_init) (defScope s_At_init) .none kV_0 dc_0 pm_0 an_0 cd_0 ct_0), sl_0⟩) (c_0 : PySem.W.codeIn K cd_0 "At.__init__" = true) (k_0 : PySem.W.keepIn K (.ref f_0) = true)
    (at_1 : PySem.W.findIn K (.ref C_At) "worth" = some (some (.ref f_1))) (fn_1 : PySem.W.isFn K (.ref f_1) = true) (l_1 : K.lookup f_1 = some ⟨oc_1, od_1, .func (PySem.W.fnOf "worth" "At.worth" (defArgs s_At_worth) (defBody s_At_worth) (defScope s_At_worth) .none kV_1 dc_1 pm_1 an_1 cd_1 ct_1), sl_1⟩) (c_1 : PySem.W.codeIn K cd_1 "At.worth" = true) (k_1 : PySem.W.keepIn K (.ref f_1) = true)
    (a_C_Pair : PySem.W.nsIn K mainGlobals "Pair" = some (some (.ref C_Pair))) (c1_C_Pair : PySem.W.plainGet K C_Pair Str.empty = true) (c2_C_Pair : PySem.W.hasDictIn K C_Pair = true) (c3_C_Pair : PySem.W.plainOver K C_Pair = true) (c4_C_Pair : PySem.W.findIn K (.ref C_Pair) "__setattr__" = some (some (.builtin "object.__setattr__")))
    (n_C_Pair_sign : PySem.W.findIn K (.ref C_Pair) "sign" = some none)
    (n_C_Pair_left : PySem.W.findIn K (.ref C_Pair) "left" = some none)
    (n_C_Pair_right : PySem.W.findIn K (.ref C_Pair) "right" = some none)
    (mk_C_Pair : PySem.W.makesIn K C_Pair = true) (kC_C_Pair : PySem.W.keepIn K (.ref C_Pair) = true)
    (at_d : PySem.W.findIn K (.ref C_Pair) "__init__" = some (some (.ref f_d))) (fn_d : PySem.W.isFn K (.ref f_d) = true) (l_d : K.lookup f_d = some ⟨oc_d, od_d, .func (PySem.W.fnOf "__init__" "Pair.__init__" (defArgs s_Pair_init) (defBody s_Pair_init) (defScope s_Pair_init) .none kV_d dc_d pm_d an_d cd_d ct_d), sl_d⟩) (c_d : PySem.W.codeIn K cd_d "Pair.__init__" = true) (k_d : PySem.W.keepIn K (.ref f_d) = true)
    (at_e : PySem.W.findIn K (.ref C_Pair) "worth" = some (some (.ref f_e))) (fn_e : PySem.W.isFn K (.ref f_e) = true) (l_e : K.lookup f_e = some ⟨oc_e, od_e, .func (PySem.W.fnOf "worth" "Pair.worth" (defArgs s_Pair_worth) (defBody s_Pair_worth) (defScope s_Pair_worth) .none kV_e dc_e pm_e an_e cd_e ct_e), sl_e⟩) (c_e : PySem.W.codeIn K cd_e "Pair.worth" = true) (k_e : PySem.W.keepIn K (.ref f_e) = true)
    (a_C_Choice : PySem.W.nsIn K mainGlobals "Choice" = some (some (.ref C_Choice))) (c1_C_Choice : PySem.W.plainGet K C_Choice Str.empty = true) (c2_C_Choice : PySem.W.hasDictIn K C_Choice = true) (c3_C_Choice : PySem.W.plainOver K C_Choice = true) (c4_C_Choice : PySem.W.findIn K (.ref C_Choice) "__setattr__" = some (some (.builtin "object.__setattr__")))
    (n_C_Choice_test : PySem.W.findIn K (.ref C_Choice) "test" = some none)
    (n_C_Choice_left : PySem.W.findIn K (.ref C_Choice) "left" = some none)
    (n_C_Choice_right : PySem.W.findIn K (.ref C_Choice) "right" = some none)
    (mk_C_Choice : PySem.W.makesIn K C_Choice = true) (kC_C_Choice : PySem.W.keepIn K (.ref C_Choice) = true)
    (at_6 : PySem.W.findIn K (.ref C_Choice) "__init__" = some (some (.ref f_6))) (fn_6 : PySem.W.isFn K (.ref f_6) = true) (l_6 : K.lookup f_6 = some ⟨oc_6, od_6, .func (PySem.W.fnOf "__init__" "Choice.__init__" (defArgs s_Choice_init) (defBody s_Choice_init) (defScope s_Choice_init) .none kV_6 dc_6 pm_6 an_6 cd_6 ct_6), sl_6⟩) (c_6 : PySem.W.codeIn K cd_6 "Choice.__init__" = true) (k_6 : PySem.W.keepIn K (.ref f_6) = true)
    (at_7 : PySem.W.findIn K (.ref C_Choice) "worth" = some (some (.ref f_7))) (fn_7 : PySem.W.isFn K (.ref f_7) = true) (l_7 : K.lookup f_7 = some ⟨oc_7, od_7, .func (PySem.W.fnOf "worth" "Choice.worth" (defArgs s_Choice_worth) (defBody s_Choice_worth) (defScope s_Choice_worth) .none kV_7 dc_7 pm_7 an_7 cd_7 ct_7), sl_7⟩) (c_7 : PySem.W.codeIn K cd_7 "Choice.worth" = true) (k_7 : PySem.W.keepIn K (.ref f_7) = true)
    (a_C_Call : PySem.W.nsIn K mainGlobals "Call" = some (some (.ref C_Call))) (c1_C_Call : PySem.W.plainGet K C_Call Str.empty = true) (c2_C_Call : PySem.W.hasDictIn K C_Call = true) (c3_C_Call : PySem.W.plainOver K C_Call = true) (c4_C_Call : PySem.W.findIn K (.ref C_Call) "__setattr__" = some (some (.builtin "object.__setattr__")))
    (n_C_Call_at : PySem.W.findIn K (.ref C_Call) "at" = some none)
    (n_C_Call_handed : PySem.W.findIn K (.ref C_Call) "handed" = some none)
    (mk_C_Call : PySem.W.makesIn K C_Call = true) (kC_C_Call : PySem.W.keepIn K (.ref C_Call) = true)
    (at_2 : PySem.W.findIn K (.ref C_Call) "__init__" = some (some (.ref f_2))) (fn_2 : PySem.W.isFn K (.ref f_2) = true) (l_2 : K.lookup f_2 = some ⟨oc_2, od_2, .func (PySem.W.fnOf "__init__" "Call.__init__" (defArgs s_Call_init) (defBody s_Call_init) (defScope s_Call_init) .none kV_2 dc_2 pm_2 an_2 cd_2 ct_2), sl_2⟩) (c_2 : PySem.W.codeIn K cd_2 "Call.__init__" = true) (k_2 : PySem.W.keepIn K (.ref f_2) = true)
    (at_3 : PySem.W.findIn K (.ref C_Call) "worth" = some (some (.ref f_3))) (fn_3 : PySem.W.isFn K (.ref f_3) = true) (l_3 : K.lookup f_3 = some ⟨oc_3, od_3, .func (PySem.W.fnOf "worth" "Call.worth" (defArgs s_Call_worth) (defBody s_Call_worth) (defScope s_Call_worth) .none kV_3 dc_3 pm_3 an_3 cd_3 ct_3), sl_3⟩) (c_3 : PySem.W.codeIn K cd_3 "Call.worth" = true) (k_3 : PySem.W.keepIn K (.ref f_3) = true)
    (b_CN : PySem.W.nsIn K mainGlobals "ByNought" = some (some (.ref CN)))
    (b_OU : PySem.W.nsIn K mainGlobals "Outside" = some (some (.ref OU)))
    (x_CN : PySem.W.excIn K CN [.type "ValueError", .type "Exception", .type "BaseException", .type "object"] "ValueError.__new__" = true)
    (x_OU : PySem.W.excIn K OU [.type "ValueError", .type "Exception", .type "BaseException", .type "object"] "ValueError.__new__" = true)
    (e1_CN : PySem.W.findIn K (.ref CN) "__getattribute__" = some (some (.builtin "BaseException.__getattribute__")))
    (e7_CN : PySem.W.findIn K (.ref CN) "__getattr__" = some none)
    (e8_CN : PySem.W.subIn K (.ref CN) (.type "BaseException") = some true)
    (e2_CN : PySem.W.hasDictIn K CN = true)
    (e3_CN : PySem.W.findIn K (.ref CN) "__class__" = some (some (.builtin "object.__class__")))
    (e4_CN : PySem.W.specialIn K (.builtin "object.__class__") "__get__" = some (some (.builtin "getset_descriptor.__get__")))
    (e5_CN : PySem.W.takesIn K (.builtin "object.__class__") = some true)
    (e6_CN : PySem.W.mroIn K CN (.type "object") = some true)
    (m_CN_CN : PySem.W.exmOne K (.ref CN) (.ref CN) = some true)
    (m_OU_CN : PySem.W.exmOne K (.ref OU) (.ref CN) = some false)
    (m_OU_OU : PySem.W.exmOne K (.ref OU) (.ref OU) = some true)
    (kno : PySem.W.kitOne K (.ref CN) (.ref OU) = some false)
    (aH : PySem.W.nsIn K mainGlobals "HALF" = some (some (.int 9223372036854775808 tH)))
    (aS : PySem.W.nsIn K mainGlobals "SIGNS" = some (some (.ref S)))
    (lS : K.lookup S = some ⟨.type "dict", none, .dict es nS, #[]⟩)
    (kS : PySem.W.KeysLit w.params es.toList)
    (g0 : PySem.W.nsIn K S "+" = some (some (.ref f_1c)))
    (g1 : PySem.W.nsIn K S "-" = some (some (.ref f_1b)))
    (g2 : PySem.W.nsIn K S "*" = some (some (.ref f_1h)))
    (g3 : PySem.W.nsIn K S "/" = some (some (.ref f_1d)))
    (g4 : PySem.W.nsIn K S "rest" = some (some (.ref f_1f)))
    (g5 : PySem.W.nsIn K S "least" = some (some (.ref f_19)))
    (g6 : PySem.W.nsIn K S "most" = some (some (.ref f_n)))
    (g7 : PySem.W.nsIn K S "<" = some (some (.ref f_p)))
    (g8 : PySem.W.nsIn K S "=" = some (some (.ref f_o)))
    (g9 : PySem.W.nsIn K S "&" = some (some (.ref f_i)))
    (g10 : PySem.W.nsIn K S "|" = some (some (.ref f_j)))
    (g11 : PySem.W.nsIn K S "^" = some (some (.ref f_k)))
    (k5 : PySem.W.kitOne K (.type "int") (.type "int") = some true)
    (k6 : PySem.W.kitOne K (.type "int") (.type "bool") = some false)
    (z_isinstance : PySem.W.nsIn K mainGlobals "isinstance" = some none)
    (z_int : PySem.W.nsIn K mainGlobals "int" = some none)
    (z_bool : PySem.W.nsIn K mainGlobals "bool" = some none)
    (z_min : PySem.W.nsIn K mainGlobals "min" = some none)
    (z_max : PySem.W.nsIn K mainGlobals "max" = some none)
    (z_len : PySem.W.nsIn K mainGlobals "len" = some none)
    (z_range : PySem.W.nsIn K mainGlobals "range" = some none)
    (z_sum : PySem.W.nsIn K mainGlobals "sum" = some none)
    (z_list : PySem.W.nsIn K mainGlobals "list" = some none)
    : ∃ fd : FuncData, (∀ (s : Shared) (v : Value), BindsTo s fd ⟨[v], []⟩ [("_law_script", v)]) ∧ ∀ base : Heap, K.In base → base.Ns mainGlobals mg → FnOk l.prog w K mg base CX0 213 fa fd ["_law_script"] (spLaw K) := by
  have e := hfa.symm.trans (PySem.W.mg_of X G a_law)
  cases e
  have d_kept : DefIn K mg "kept" s_kept ["number"] := defIn_mk X G a_kept l_q c_q k_q fun _ _ _ _ _ _ us hl => match us, hl with | [_], _ => rfl
  have d_plus : DefIn K mg "plus" s_plus ["left", "right"] := defIn_mk X G a_plus l_1c c_1c k_1c fun _ _ _ _ _ _ us hl => match us, hl with | [_, _], _ => rfl
  have d_minus : DefIn K mg "minus" s_minus ["left", "right"] := defIn_mk X G a_minus l_1b c_1b k_1b fun _ _ _ _ _ _ us hl => match us, hl with | [_, _], _ => rfl
  have d_times : DefIn K mg "times" s_times ["left", "right"] := defIn_mk X G a_times l_1h c_1h k_1h fun _ _ _ _ _ _ us hl => match us, hl with | [_, _], _ => rfl
  have d_refuse_nought : DefIn K mg "refuse_nought" s_refuse_nought ["right"] := defIn_mk X G a_refuse_nought l_1e c_1e k_1e fun _ _ _ _ _ _ us hl => match us, hl with | [_], _ => rfl
  have d_quotient : DefIn K mg "quotient" s_quotient ["left", "right"] := defIn_mk X G a_quotient l_1d c_1d k_1d fun _ _ _ _ _ _ us hl => match us, hl with | [_, _], _ => rfl
  have d_remainder : DefIn K mg "remainder" s_remainder ["left", "right"] := defIn_mk X G a_remainder l_1f c_1f k_1f fun _ _ _ _ _ _ us hl => match us, hl with | [_, _], _ => rfl
  have d_lesser : DefIn K mg "lesser" s_lesser ["left", "right"] := defIn_mk X G a_lesser l_19 c_19 k_19 fun _ _ _ _ _ _ us hl => match us, hl with | [_, _], _ => rfl
  have d_greater : DefIn K mg "greater" s_greater ["left", "right"] := defIn_mk X G a_greater l_n c_n k_n fun _ _ _ _ _ _ us hl => match us, hl with | [_, _], _ => rfl
  have d_is_less : DefIn K mg "is_less" s_is_less ["left", "right"] := defIn_mk X G a_is_less l_p c_p k_p fun _ _ _ _ _ _ us hl => match us, hl with | [_, _], _ => rfl
  have d_is_equal : DefIn K mg "is_equal" s_is_equal ["left", "right"] := defIn_mk X G a_is_equal l_o c_o k_o fun _ _ _ _ _ _ us hl => match us, hl with | [_, _], _ => rfl
  have d_bits_of_both : DefIn K mg "bits_of_both" s_bits_of_both ["left", "right"] := defIn_mk X G a_bits_of_both l_i c_i k_i fun _ _ _ _ _ _ us hl => match us, hl with | [_, _], _ => rfl
  have d_bits_of_either : DefIn K mg "bits_of_either" s_bits_of_either ["left", "right"] := defIn_mk X G a_bits_of_either l_j c_j k_j fun _ _ _ _ _ _ us hl => match us, hl with | [_, _], _ => rfl
  have d_bits_of_one : DefIn K mg "bits_of_one" s_bits_of_one ["left", "right"] := defIn_mk X G a_bits_of_one l_k c_k k_k fun _ _ _ _ _ _ us hl => match us, hl with | [_, _], _ => rfl
  have d_done : DefIn K mg "done" s_done ["sign", "left", "right"] := defIn_mk X G a_done l_m c_m k_m fun _ _ _ _ _ _ us hl => match us, hl with | [_, _, _], _ => rfl
  have d_start_of : DefIn K mg "start_of" s_start_of ["lengths", "row"] := defIn_mk X G a_start_of l_1g c_1g k_1g fun _ _ _ _ _ _ us hl => match us, hl with | [_, _], _ => rfl
  have d_lies_in : DefIn K mg "lies_in" s_lies_in ["spot", "row", "place"] := defIn_mk X G a_lies_in l_1a c_1a k_1a fun _ _ _ _ _ _ us hl => match us, hl with | [_, _, _], _ => rfl
  have d_cell_at : DefIn K mg "cell_at" s_cell_at ["spot", "row", "place"] := defIn_mk X G a_cell_at l_l c_l k_l fun _ _ _ _ _ _ us hl => match us, hl with | [_, _, _], _ => rfl
  have d_l_whole : DefIn K mg "_law_whole" s_l_whole ["_law_found"] := defIn_mk X G a_l_whole l_17 c_17 k_17 fun _ _ _ _ _ _ us hl => match us, hl with | [_], _ => rfl
  have d_l_kept_by : DefIn K mg "_law_kept_by" s_l_kept_by ["_law_cell"] := defIn_mk X G a_l_kept_by l_z c_z k_z fun _ _ _ _ _ _ us hl => match us, hl with | [_], _ => rfl
  have d_l_mix : DefIn K mg "_law_mix" s_l_mix ["_law_cell", "_law_factor", "_law_prime"] := defIn_mk X G a_l_mix l_10 c_10 k_10 fun _ _ _ _ _ _ us hl => match us, hl with | [_, _, _], _ => rfl
  have d_l_signed : DefIn K mg "_law_signed" s_l_signed ["_law_sign", "_law_left", "_law_right_here"] := defIn_mk X G a_l_signed l_15 c_15 k_15 fun _ _ _ _ _ _ us hl => match us, hl with | [_, _, _], _ => rfl
  have d_l_asked : DefIn K mg "_law_asked" s_l_asked ["_law_form", "_law_spot"] := defIn_mk X G a_l_asked l_r c_r k_r fun _ _ _ _ _ _ us hl => match us, hl with | [_, _], _ => rfl
  have d_l_takes : DefIn K mg "_law_takes" s_l_takes ["_law_item", "_law_functions"] := defIn_mk X G a_l_takes l_16 c_16 k_16 fun _ _ _ _ _ _ us hl => match us, hl with | [_, _], _ => rfl
  have d_l_grown : DefIn K mg "_law_grown" s_l_grown ["_law_pile", "_law_item", "_law_functions", "_law_room"] := defIn_mk X G a_l_grown l_w c_w k_w fun _ _ _ _ _ _ us hl => match us, hl with | [_, _, _, _], _ => rfl
  have d_l_post_by : DefIn K mg "_law_post_by" s_l_post_by ["_law_cells", "_law_wide", "_law_lengths", "_law_hands", "_law_functions", "_law_room"] := defIn_mk X G a_l_post_by l_11 c_11 k_11 fun _ _ _ _ _ _ us hl => match us, hl with | [_, _, _, _, _, _], _ => rfl
  have d_l_items_by : DefIn K mg "_law_items_by" s_l_items_by ["_law_cell", "_law_wide", "_law_lengths", "_law_hands", "_law_functions"] := defIn_mk X G a_l_items_by l_x c_x k_x fun _ _ _ _ _ _ us hl => match us, hl with | [_, _, _, _, _], _ => rfl
  have d_l_form_by : DefIn K mg "_law_form_by" s_l_form_by ["_law_item", "_law_parts"] := defIn_mk X G a_l_form_by l_t c_t k_t fun _ _ _ _ _ _ us hl => match us, hl with | [_, _], _ => rfl
  have d_l_form_of : DefIn K mg "_law_form_of" s_l_form_of ["_law_post", "_law_functions"] := defIn_mk X G a_l_form_of l_u c_u k_u fun _ _ _ _ _ _ us hl => match us, hl with | [_, _], _ => rfl
  have d_l_cell_due : DefIn K mg "_law_cell_due" s_l_cell_due ["_law_item", "_law_part", "_law_place", "_law_worth"] := defIn_mk X G a_l_cell_due l_s c_s k_s fun _ _ _ _ _ _ us hl => match us, hl with | [_, _, _, _], _ => rfl
  have d_l_joined : DefIn K mg "_law_joined" s_l_joined ["_law_item", "_law_parts", "_law_rows", "_law_place", "_law_own", "_law_functions"] := defIn_mk X G a_l_joined l_y c_y k_y fun _ _ _ _ _ _ us hl => match us, hl with | [_, _, _, _, _, _], _ => rfl
  have d_l_result : DefIn K mg "_law_result" s_l_result ["_law_post", "_law_rows", "_law_place", "_law_own", "_law_functions"] := defIn_mk X G a_l_result l_12 c_12 k_12 fun _ _ _ _ _ _ us hl => match us, hl with | [_, _, _, _, _], _ => rfl
  have d_l_functions_by : DefIn K mg "_law_functions_by" s_l_functions_by ["_law_cells"] := defIn_mk X G a_l_functions_by l_v c_v k_v fun _ _ _ _ _ _ us hl => match us, hl with | [_], _ => rfl
  have d_l_rows_by : DefIn K mg "_law_rows_by" s_l_rows_by ["_law_script", "_law_many"] := defIn_mk X G a_l_rows_by l_14 c_14 k_14 fun _ _ _ _ _ _ us hl => match us, hl with | [_, _], _ => rfl
  have d_l_right : DefIn K mg "_law_right" s_l_right ["_law_form", "_law_post", "_law_rows", "_law_place", "_law_functions", "_law_bodies"] := defIn_mk X G a_l_right l_13 c_13 k_13 fun _ _ _ _ _ _ us hl => match us, hl with | [_, _, _, _, _, _], _ => rfl
  have d_Spot_init : InitIn K C_Spot "Spot.__init__" s_Spot_init ["self", "lengths", "functions", "cells", "place", "own"] := ⟨f_h, _, ⟨mk_C_Spot, at_h, fn_h, kC_C_Spot⟩, fun_mk l_h c_h k_h, (fun_mk l_h c_h k_h).binds fun _ _ _ _ _ _ us hl => match us, hl with | [_, _, _, _, _, _], _ => rfl⟩
  have d_Number_init : InitIn K C_Number "Number.__init__" s_Number_init ["self", "number"] := ⟨f_b, _, ⟨mk_C_Number, at_b, fn_b, kC_C_Number⟩, fun_mk l_b c_b k_b, (fun_mk l_b c_b k_b).binds fun _ _ _ _ _ _ us hl => match us, hl with | [_, _], _ => rfl⟩
  have d_Number_worth : MethIn K C_Number "worth" "Number.worth" s_Number_worth ["self", "spot"] := ⟨f_c, _, ⟨at_c, fn_c, k_c⟩, fun_mk l_c c_c k_c, (fun_mk l_c c_c k_c).binds fun _ _ _ _ _ _ us hl => match us, hl with | [_, _], _ => rfl⟩
  have d_Here_worth : MethIn K C_Here "worth" "Here.worth" s_Here_worth ["self", "spot"] := ⟨f_8, _, ⟨at_8, fn_8, k_8⟩, fun_mk l_8 c_8 k_8, (fun_mk l_8 c_8 k_8).binds fun _ _ _ _ _ _ us hl => match us, hl with | [_, _], _ => rfl⟩
  have d_Cell_init : InitIn K C_Cell "Cell.__init__" s_Cell_init ["self", "row"] := ⟨f_4, _, ⟨mk_C_Cell, at_4, fn_4, kC_C_Cell⟩, fun_mk l_4 c_4 k_4, (fun_mk l_4 c_4 k_4).binds fun _ _ _ _ _ _ us hl => match us, hl with | [_, _], _ => rfl⟩
  have d_Cell_worth : MethIn K C_Cell "worth" "Cell.worth" s_Cell_worth ["self", "spot"] := ⟨f_5, _, ⟨at_5, fn_5, k_5⟩, fun_mk l_5 c_5 k_5, (fun_mk l_5 c_5 k_5).binds fun _ _ _ _ _ _ us hl => match us, hl with | [_, _], _ => rfl⟩
  have d_Shifted_init : InitIn K C_Shifted "Shifted.__init__" s_Shifted_init ["self", "row", "by", "other"] := ⟨f_f, _, ⟨mk_C_Shifted, at_f, fn_f, kC_C_Shifted⟩, fun_mk l_f c_f k_f, (fun_mk l_f c_f k_f).binds fun _ _ _ _ _ _ us hl => match us, hl with | [_, _, _, _], _ => rfl⟩
  have d_Shifted_worth : MethIn K C_Shifted "worth" "Shifted.worth" s_Shifted_worth ["self", "spot"] := ⟨f_g, _, ⟨at_g, fn_g, k_g⟩, fun_mk l_g c_g k_g, (fun_mk l_g c_g k_g).binds fun _ _ _ _ _ _ us hl => match us, hl with | [_, _], _ => rfl⟩
  have d_Local_init : InitIn K C_Local "Local.__init__" s_Local_init ["self", "at"] := ⟨f_9, _, ⟨mk_C_Local, at_9, fn_9, kC_C_Local⟩, fun_mk l_9 c_9 k_9, (fun_mk l_9 c_9 k_9).binds fun _ _ _ _ _ _ us hl => match us, hl with | [_, _], _ => rfl⟩
  have d_Local_worth : MethIn K C_Local "worth" "Local.worth" s_Local_worth ["self", "spot"] := ⟨f_a, _, ⟨at_a, fn_a, k_a⟩, fun_mk l_a c_a k_a, (fun_mk l_a c_a k_a).binds fun _ _ _ _ _ _ us hl => match us, hl with | [_, _], _ => rfl⟩
  have d_At_init : InitIn K C_At "At.__init__" s_At_init ["self", "row", "place"] := ⟨f_0, _, ⟨mk_C_At, at_0, fn_0, kC_C_At⟩, fun_mk l_0 c_0 k_0, (fun_mk l_0 c_0 k_0).binds fun _ _ _ _ _ _ us hl => match us, hl with | [_, _, _], _ => rfl⟩
  have d_At_worth : MethIn K C_At "worth" "At.worth" s_At_worth ["self", "spot"] := ⟨f_1, _, ⟨at_1, fn_1, k_1⟩, fun_mk l_1 c_1 k_1, (fun_mk l_1 c_1 k_1).binds fun _ _ _ _ _ _ us hl => match us, hl with | [_, _], _ => rfl⟩
  have d_Pair_init : InitIn K C_Pair "Pair.__init__" s_Pair_init ["self", "sign", "left", "right"] := ⟨f_d, _, ⟨mk_C_Pair, at_d, fn_d, kC_C_Pair⟩, fun_mk l_d c_d k_d, (fun_mk l_d c_d k_d).binds fun _ _ _ _ _ _ us hl => match us, hl with | [_, _, _, _], _ => rfl⟩
  have d_Pair_worth : MethIn K C_Pair "worth" "Pair.worth" s_Pair_worth ["self", "spot"] := ⟨f_e, _, ⟨at_e, fn_e, k_e⟩, fun_mk l_e c_e k_e, (fun_mk l_e c_e k_e).binds fun _ _ _ _ _ _ us hl => match us, hl with | [_, _], _ => rfl⟩
  have d_Choice_init : InitIn K C_Choice "Choice.__init__" s_Choice_init ["self", "test", "left", "right"] := ⟨f_6, _, ⟨mk_C_Choice, at_6, fn_6, kC_C_Choice⟩, fun_mk l_6 c_6 k_6, (fun_mk l_6 c_6 k_6).binds fun _ _ _ _ _ _ us hl => match us, hl with | [_, _, _, _], _ => rfl⟩
  have d_Choice_worth : MethIn K C_Choice "worth" "Choice.worth" s_Choice_worth ["self", "spot"] := ⟨f_7, _, ⟨at_7, fn_7, k_7⟩, fun_mk l_7 c_7 k_7, (fun_mk l_7 c_7 k_7).binds fun _ _ _ _ _ _ us hl => match us, hl with | [_, _], _ => rfl⟩
  have d_Call_init : InitIn K C_Call "Call.__init__" s_Call_init ["self", "at", "handed"] := ⟨f_2, _, ⟨mk_C_Call, at_2, fn_2, kC_C_Call⟩, fun_mk l_2 c_2 k_2, (fun_mk l_2 c_2 k_2).binds fun _ _ _ _ _ _ us hl => match us, hl with | [_, _, _], _ => rfl⟩
  have d_Call_worth : MethIn K C_Call "worth" "Call.worth" s_Call_worth ["self", "spot"] := ⟨f_3, _, ⟨at_3, fn_3, k_3⟩, fun_mk l_3 c_3 k_3, (fun_mk l_3 c_3 k_3).binds fun _ _ _ _ _ _ us hl => match us, hl with | [_, _], _ => rfl⟩
  have cl_Spot : Cls K C_Spot := ⟨c1_C_Spot, c2_C_Spot, c3_C_Spot, c4_C_Spot⟩
  have cl_Number : Cls K C_Number := ⟨c1_C_Number, c2_C_Number, c3_C_Number, c4_C_Number⟩
  have cl_Here : Cls K C_Here := ⟨c1_C_Here, c2_C_Here, c3_C_Here, c4_C_Here⟩
  have cl_Cell : Cls K C_Cell := ⟨c1_C_Cell, c2_C_Cell, c3_C_Cell, c4_C_Cell⟩
  have cl_Shifted : Cls K C_Shifted := ⟨c1_C_Shifted, c2_C_Shifted, c3_C_Shifted, c4_C_Shifted⟩
  have cl_Local : Cls K C_Local := ⟨c1_C_Local, c2_C_Local, c3_C_Local, c4_C_Local⟩
  have cl_At : Cls K C_At := ⟨c1_C_At, c2_C_At, c3_C_At, c4_C_At⟩
  have cl_Pair : Cls K C_Pair := ⟨c1_C_Pair, c2_C_Pair, c3_C_Pair, c4_C_Pair⟩
  have cl_Choice : Cls K C_Choice := ⟨c1_C_Choice, c2_C_Choice, c3_C_Choice, c4_C_Choice⟩
  have cl_Call : Cls K C_Call := ⟨c1_C_Call, c2_C_Call, c3_C_Call, c4_C_Call⟩
  have mm := fun {x : Str} {v : Value} (q : PySem.W.nsIn K mainGlobals x = some (some v)) => PySem.W.mg_of X G q
  have mz := fun {x : Str} (q : PySem.W.nsIn K mainGlobals x = some none) => PySem.W.mg_none_of X G q
  refine ⟨PySem.W.fnOf "law" "law" (defArgs s_law) (defBody s_law) (defScope s_law) .none kV_18 dc_18 pm_18 an_18 cd_18 ct_18, fun s v => .of_eq rfl, fun base kb nb => ?_⟩
  have N : Ints K mg := ⟨mz z_isinstance, mz z_int, mz z_bool, k5, k6⟩
  have W := ok_whole (P := l.prog) (w := w) (base := base) d_l_whole N
  have SO' := ok_start (P := l.prog) (w := w) (base := base) d_start_of (mz z_sum)
  have sC : SpotC K C_Spot := ⟨cl_Spot, n_C_Spot_lengths, n_C_Spot_functions, n_C_Spot_cells, n_C_Spot_place, n_C_Spot_own⟩
  have T : TopDict w K S := ⟨es, nS, lS, kS⟩
  have Sg : Signs K mg S := ⟨⟨_, g0, mm a_plus⟩, ⟨_, g1, mm a_minus⟩, ⟨_, g2, mm a_times⟩, ⟨_, g3, mm a_quotient⟩, ⟨_, g4, mm a_remainder⟩, ⟨_, g5, mm a_lesser⟩, ⟨_, g6, mm a_greater⟩, ⟨_, g7, mm a_is_less⟩, ⟨_, g8, mm a_is_equal⟩, ⟨_, g9, mm a_bits_of_both⟩, ⟨_, g10, mm a_bits_of_either⟩, ⟨_, g11, mm a_bits_of_one⟩⟩
  have GK := ok_kept (P := l.prog) (w := w) (base := base) d_kept (mm aH)
  have GN := ok_refuse (P := l.prog) (w := w) (base := base) d_refuse_nought (own_in kb (mm b_CN) x_CN) PySem.F.excBase_ValueError
  have Fs : Fns l.prog w K mg base CN := ⟨ok_plus d_plus GK, ok_minus d_minus GK, ok_times d_times GK, ok_quotient d_quotient GK GN, ok_remainder d_remainder GN, ok_lesser d_lesser (mz z_min), ok_greater d_greater (mz z_max), ok_is_less d_is_less, ok_is_equal d_is_equal, ok_both d_bits_of_both, ok_either d_bits_of_either, ok_one d_bits_of_one⟩
  have DN := ok_done d_done (mm aS) T Sg Fs
  let c : F2.Cs := ⟨⟨C_Number, C_Here, C_Cell, C_Shifted, C_Local, C_At, C_Pair, C_Choice, C_Spot⟩, C_Call⟩
  have LI := ok_lies (P := l.prog) (w := w) (base := base) (c := c.toCs) d_lies_in sC
  have CL := ok_cell (c := c.toCs) d_cell_at sC SO'
  have IN := okI_Number (P := l.prog) (w := w) (mg := mg) (base := base) d_Number_init cl_Number n_C_Number_number
  have IC := okI_Cell (P := l.prog) (w := w) (mg := mg) (base := base) d_Cell_init cl_Cell n_C_Cell_row
  have IH := okI_Shifted (P := l.prog) (w := w) (mg := mg) (base := base) d_Shifted_init cl_Shifted n_C_Shifted_row n_C_Shifted_by n_C_Shifted_other
  have IL := okI_Local (P := l.prog) (w := w) (mg := mg) (base := base) d_Local_init cl_Local n_C_Local_at
  have IA := okI_At (P := l.prog) (w := w) (mg := mg) (base := base) d_At_init cl_At n_C_At_row n_C_At_place
  have IP := okI_Pair (P := l.prog) (w := w) (mg := mg) (base := base) d_Pair_init cl_Pair n_C_Pair_sign n_C_Pair_left n_C_Pair_right
  have IO := okI_Choice (P := l.prog) (w := w) (mg := mg) (base := base) d_Choice_init cl_Choice n_C_Choice_test n_C_Choice_left n_C_Choice_right
  have IS := okI_Spot (P := l.prog) (w := w) (mg := mg) (base := base) d_Spot_init cl_Spot n_C_Spot_lengths n_C_Spot_functions n_C_Spot_cells n_C_Spot_place n_C_Spot_own
  have ICa := okI_Call (P := l.prog) (w := w) (mg := mg) (base := base) d_Call_init (mz z_list) cl_Call n_C_Call_at n_C_Call_handed
  have MH : MkN K C_Here := ⟨mk_C_Here, in_C_Here, kC_C_Here⟩
  have Wk : ∀ ls, LsOk ls → Works3 l.prog w K mg base c CN OU true (fsOf ls) := fun ls ok =>
    ⟨fun k n => w2_num (c := c) d_Number_worth cl_Number n_C_Number_number, fun k => w2_here (c := c) d_Here_worth cl_Here sC, (fun _ k r => w2_cell (c := c) d_Cell_worth cl_Cell n_C_Cell_row sC CL), (fun _ k r b o => w2_shi (c := c) d_Shifted_worth cl_Shifted n_C_Shifted_row n_C_Shifted_by n_C_Shifted_other sC LI CL), fun k a => w2_loc (c := c) d_Local_worth cl_Local n_C_Local_at sC,
      fun k r p rm h q => w2_at (c := c) d_At_worth cl_At n_C_At_row n_C_At_place LI CL (own_in kb (mm b_OU) x_OU) PySem.F.excBase_ValueError h q, fun k sg a b rm h p q => w2_pair (c := c) d_Pair_worth cl_Pair n_C_Pair_sign n_C_Pair_left n_C_Pair_right (ls_bodies ok) DN h p q, fun k t a b rm p q r => w2_cho (c := c) d_Choice_worth cl_Choice n_C_Choice_test n_C_Choice_left n_C_Choice_right p q r,
      fun k a gs rm h hh hb => w2_call (c := c) d_Call_worth cl_Call n_C_Call_at n_C_Call_handed sC (ls_bodies ok) IS (mm a_C_Spot) h (hands_le ok) hh hb⟩
  have X : ExcX K mg CN OU := ⟨⟨mm b_CN, mm b_OU, m_CN_CN, m_OU_CN, m_OU_OU⟩, kno, ⟨e1_CN, e7_CN, e8_CN, e2_CN, e3_CN, e4_CN, e5_CN, e6_CN⟩⟩
  have KB := ok_kept_by (P := l.prog) (w := w) (base := base) d_l_kept_by
  have MX := ok_mix (P := l.prog) (w := w) (base := base) d_l_mix
  have SG := ok_signed (P := l.prog) (w := w) (base := base) d_l_signed N (mz z_min) (mz z_max)
  have TK := ok_takes (P := l.prog) (w := w) (base := base) d_l_takes
  have FB := ok_formBy (c := c) d_l_form_by MH (mm a_C_Here) (mm a_C_Number) (mm a_C_Local) (mm a_C_Pair) (mm a_C_Choice) (mm a_C_Call) (mm a_C_Cell) (mm a_C_Shifted) (mm a_C_At) IN IL IP IO IC IH IA ICa
  have FO := ok_formOf (c := c) d_l_form_of (mz z_len) TK FB
  have IT := ok_items (P := l.prog) (w := w) (base := base) d_l_items_by (mz z_len) KB
  have GR := ok_grown (P := l.prog) (w := w) (base := base) d_l_grown (mz z_len) (mz z_max) TK
  have PB := ok_postBy (P := l.prog) (w := w) (base := base) d_l_post_by (mz z_len) (mz z_max) IT GR
  have CD := ok_cellDue (P := l.prog) (w := w) (base := base) d_l_cell_due (mz z_len)
  have JO := ok_joined_all (P := l.prog) (w := w) (base := base) d_l_joined d_l_result (mz z_len) SG CD TK
  have RS := fun k => ok_result_at k d_l_result (mz z_len) TK (JO k)
  have RB := ok_rowsBy (P := l.prog) (w := w) (base := base) d_l_rows_by (mz z_len) (mz z_range) MX KB
  have FU := ok_funsBy (P := l.prog) (w := w) (base := base) d_l_functions_by (mz z_len) (mz z_range) MX PB
  have AS := ok_asked (P := l.prog) (w := w) (base := base) (c := c) (rm := 210) d_l_asked X N
  have RI := ok_right (c := c) d_l_right (mz z_len) (mz z_list) Wk (mm a_C_Spot) IS W AS RS
  exact ok_law (c := c) (fun_mk (st := s_law) l_18 c_18 k_18) (mz z_len) (mz z_range) MX RB FU FO PB RI
theorem walk {l : PySem.W.OpenLaw} {q : Program} {loose : List Str} {XP : (Str → Option Value) → Heap → Prop} {YP : World → Heap → Prop} {d : DefRec} {K : Params → PySem.W.Frag} (hn : l.most = some 63) (hdf : d.params.defaults = [])
    (hY : ∀ (w : World) (h : Heap), YP w h → (K w.params).In h)
    (F : ∀ (w : World) (mg : Str → Option Value) (fa : Addr) (h : Heap), (K w.params).In h → h.Ns mainGlobals mg → mg d.name = some (.ref fa) →
      ∃ fd : FuncData, (∀ (s : Shared) (u : Value), BindsTo s fd ⟨[u], []⟩ [("_law_script", u)]) ∧ ∀ base : Heap, (K w.params).In base → base.Ns mainGlobals mg → FnOk l.prog w (K w.params) mg base CX0 213 fa fd ["_law_script"] (spLaw (K w.params))) :
    PySem.W.WalkO q loose XP YP l.row.toRowW d [] (fun f vs => PySem.call f vs) :=
  L2.walk_of (n := 63) (k := 213) (x := "_law_script") (CX := fun _ => CX0) (sp := fun w => spLaw (K w.params)) hn (by decide) hdf ⟨rfl, by decide, by decide⟩ hY F (fun _ _ a ns hl _ hS => ⟨a, ns, rfl, hS, hl, fun _ => rfl⟩) fun _ _ _ _ _ z => z
end K13
open PySem PySem.W PyProof.Rows
set_option maxRecDepth 100000 in
set_option maxHeartbeats 0 in
theorem PySem.Challenge.cw_rowbreadth_k13_forms_holds : PySem.Challenge.rw_rowbreadth_k13_forms.Holds := by
  w_on; o_law; k_head; (case hw => w_witness2)
  k_fill
  refine K13.walk (l := PySem.Challenge.rw_rowbreadth_k13_forms) rfl rfl (fun w h Y => PySem.W.kIn_of Y) ?F
  case F =>
    intro w mg fa h KX G hmg
    refine' K13.all_mk KX G hmg ?q0 ?q1 ?q2 ?q3 ?q4 ?q5 ?q6 ?q7 ?q8 ?q9 ?qa ?qb ?qc ?qd ?qe ?qf ?qg ?qh ?qi ?qj ?qk ?ql ?qm ?qn ?qo ?qp ?qq ?qr ?qs ?qt ?qu ?qv ?qw ?qx ?qy ?qz ?q10 ?q11 ?q12 ?q13 ?q14 ?q15 ?q16 ?q17 ?q18 ?q19 ?q1a ?q1b ?q1c ?q1d ?q1e ?q1f ?q1g ?q1h ?q1i ?q1j ?q1k ?q1l ?q1m ?q1n ?q1o ?q1p ?q1q ?q1r ?q1s ?q1t ?q1u ?q1v ?q1w ?q1x ?q1y ?q1z ?q20 ?q21 ?q22 ?q23 ?q24 ?q25 ?q26 ?q27 ?q28 ?q29 ?q2a ?q2b ?q2c ?q2d ?q2e ?q2f ?q2g ?q2h ?q2i ?q2j ?q2k ?q2l ?q2m ?q2n ?q2o ?q2p ?q2q ?q2r ?q2s ?q2t ?q2u ?q2v ?q2w ?q2x ?q2y ?q2z ?q30 ?q31 ?q32 ?q33 ?q34 ?q35 ?q36 ?q37 ?q38 ?q39 ?q3a ?q3b ?q3c ?q3d ?q3e ?q3f ?q3g ?q3h ?q3i ?q3j ?q3k ?q3l ?q3m ?q3n ?q3o ?q3p ?q3q ?q3r ?q3s ?q3t ?q3u ?q3v ?q3w ?q3x ?q3y ?q3z ?q40 ?q41 ?q42 ?q43 ?q44 ?q45 ?q46 ?q47 ?q48 ?q49 ?q4a ?q4b ?q4c ?q4d ?q4e ?q4f ?q4g ?q4h ?q4i ?q4j ?q4k ?q4l ?q4m ?q4n ?q4o ?q4p ?q4q ?q4r ?q4s ?q4t ?q4u ?q4v ?q4w ?q4x ?q4y ?q4z ?q50 ?q51 ?q52 ?q53 ?q54 ?q55 ?q56 ?q57 ?q58 ?q59 ?q5a ?q5b ?q5c ?q5d ?q5e ?q5f ?q5g ?q5h ?q5i ?q5j ?q5k ?q5l ?q5m ?q5n ?q5o ?q5p ?q5q ?q5r ?q5s ?q5t ?q5u ?q5v ?q5w ?q5x ?q5y ?q5z ?q60 ?q61 ?q62 ?q63 ?q64 ?q65 ?q66 ?q67 ?q68 ?q69 ?q6a ?q6b ?q6c ?q6d ?q6e ?q6f ?q6g ?q6h ?q6i ?q6j ?q6k ?q6l ?q6m ?q6n ?q6o ?q6p ?q6q ?q6r ?q6s ?q6t ?q6u ?q6v ?q6w ?q6x ?q6y ?q6z ?q70 ?q71 ?q72 ?q73 ?q74 ?q75 ?q76 ?q77 ?q78 ?q79 ?q7a ?q7b ?q7c ?q7d ?q7e ?q7f ?q7g ?q7h ?q7i ?q7j ?q7k ?q7l ?q7m ?q7n ?q7o ?q7p ?q7q ?q7r ?q7s ?q7t ?q7u ?q7v ?q7w ?q7x ?q7y ?q7z ?q80 ?q81 ?q82 ?q83 ?q84 ?q85 ?q86 ?q87 ?q88 ?q89 ?q8a ?q8b ?q8c ?q8d ?q8e ?q8f ?q8g ?q8h ?q8i ?q8j ?q8k ?q8l ?q8m ?q8n ?q8o ?q8p ?q8q ?q8r ?q8s ?q8t ?q8u ?q8v ?q8w ?q8x ?q8y ?q8z ?q90 ?q91 ?q92 ?q93 ?q94 ?q95 ?q96 ?q97 ?q98 ?q99 ?q9a ?q9b ?q9c ?q9d ?q9e ?q9f ?q9g ?q9h ?q9i ?q9j ?q9k ?q9l ?q9m ?q9n ?q9o ?q9p ?q9q ?q9r ?q9s ?q9t ?q9u ?q9v ?q9w ?q9x ?q9y ?q9z ?qa0 ?qa1 ?qa2 ?qa3 ?qa4 ?qa5 ?qa6 ?qa7 ?qa8
    (case q0 | q1 | q2 | q3 | q4 | q5 | q6 | q7 | q8 | q9 | qa | qb | qc | qd | qe | qf | qg | qh | qi | qj | qk | ql | qm | qn | qo | qp | qq | qr | qs | qt | qu | qv | qw | qx | qy | qz | q10 | q11 | q12 | q13 => k_is)
    (case q14 | q15 | q16 | q17 | q18 | q19 | q1a | q1b | q1c | q1d | q1e | q1f | q1g | q1h | q1i | q1j | q1k | q1l | q1m | q1n | q1o | q1p | q1q | q1r | q1s | q1t | q1u | q1v | q1w | q1x | q1y | q1z | q20 | q21 | q22 | q23 | q24 | q25 | q26 | q27 => k_is)
    (case q28 | q29 | q2a | q2b | q2c | q2d | q2e | q2f | q2g | q2h | q2i | q2j | q2k | q2l | q2m | q2n | q2o | q2p | q2q | q2r | q2s | q2t | q2u | q2v | q2w | q2x | q2y | q2z | q30 | q31 | q32 | q33 | q34 | q35 | q36 | q37 | q38 | q39 | q3a | q3b => k_is)
    (case q3c | q3d | q3e | q3f | q3g | q3h | q3i | q3j | q3k | q3l | q3m | q3n | q3o | q3p | q3q | q3r | q3s | q3t | q3u | q3v | q3w | q3x | q3y | q3z | q40 | q41 | q42 | q43 | q44 | q45 | q46 | q47 | q48 | q49 | q4a | q4b | q4c | q4d | q4e | q4f => k_is)
    (case q4g | q4h | q4i | q4j | q4k | q4l | q4m | q4n | q4o | q4p | q4q | q4r | q4s | q4t | q4u | q4v | q4w | q4x | q4y | q4z | q50 | q51 | q52 | q53 | q54 | q55 | q56 | q57 | q58 | q59 | q5a | q5b | q5c | q5d | q5e | q5f | q5g | q5h | q5i | q5j => k_is)
    (case q5k | q5l | q5m | q5n | q5o | q5p | q5q | q5r | q5s | q5t | q5u | q5v | q5w | q5x | q5y | q5z | q60 | q61 | q62 | q63 | q64 | q65 | q66 | q67 | q68 | q69 | q6a | q6b | q6c | q6d | q6e | q6f | q6g | q6h | q6i | q6j | q6k | q6l | q6m | q6n => k_is)
    (case q6o | q6p | q6q | q6r | q6s | q6t | q6u | q6v | q6w | q6x | q6y | q6z | q70 | q71 | q72 | q73 | q74 | q75 | q76 | q77 | q78 | q79 | q7a | q7b | q7c | q7d | q7e | q7f | q7g | q7h | q7i | q7j | q7k | q7l | q7m | q7n | q7o | q7p | q7q | q7r => k_is)
    (case q7s | q7t | q7u | q7v | q7w | q7x | q7y | q7z | q80 | q81 | q82 | q83 | q84 | q85 | q86 | q87 | q88 | q89 | q8a | q8b | q8c | q8d | q8e | q8f | q8g | q8h | q8i | q8j | q8k | q8l | q8m | q8n | q8o | q8p | q8q | q8r | q8s | q8t | q8u | q8v => k_is)
    (case q8w | q8x | q8y | q8z | q90 | q91 | q92 | q93 => k_is)
    (case q94 | q95 => k_exc)
    (case q96 | q97 | q98 | q99 | q9a | q9b | q9c | q9d => k_is)
    (case q9e | q9f | q9g => kts_exm)
    (case q9h => kit_is)
    (case q9i | q9j | q9k => k_is)
    (case q9l => k_keys)
    (case q9m | q9n | q9o | q9p | q9q | q9r | q9s | q9t | q9u | q9v | q9w | q9x => k_is)
    (case q9y | q9z => kit_is)
    (case qa0 | qa1 | qa2 | qa3 | qa4 | qa5 | qa6 | qa7 | qa8 => k_is)
