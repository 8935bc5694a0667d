import PyProof.Rows.All
import Wide.All
import OpenK.AllK
import Wide.FinOn
import Lean
import PyProof.EqAt
import PyProof.EqKinds
import PyProof.TupleCall
import PySem.Challenge.RW_rowbreadth_k20_uneven_and_crossed
set_option Elab.async false
set_option linter.all false
set_option maxRecDepth 100000
set_option maxHeartbeats 4000000
namespace PySem.W.Fast
def tw8084179260788744250 : Unit := ()
def tw6303738652863811957 : Unit := ()
def tw4092873146616421987 : Unit := ()
def tw4012826842472769306 : Unit := ()
def tw8780787251189421012 : Unit := ()
def tw476556623402492890 : Unit := ()
def tw6589196414282475328 : Unit := ()
def tw15837835256368812820 : Unit := ()
def tw2913051834672619448 : Unit := ()
def tw12031480504461563677 : Unit := ()
def tw17674690068372445233 : Unit := ()
def tw12948717973078833889 : Unit := ()
def tw15688049968877284638 : Unit := ()
def tw3064328841591935624 : Unit := ()
def tw11681385425004088964 : Unit := ()
def tw9048328319131441337 : Unit := ()
def tw12272614566390195466 : Unit := ()
def tw13071304959222132294 : Unit := ()
def tw14044000260625031268 : Unit := ()
def tw17640454234284153717 : Unit := ()
def tw18163526624023711099 : Unit := ()
def tw398565441767379497 : Unit := ()
def tw15975247391143639933 : Unit := ()
def tw7052281417711281750 : Unit := ()
def tw10764372154633318237 : Unit := ()
def tw14984631616608659726 : Unit := ()
def tw8065461254622191216 : Unit := ()
def tw9465413524009072967 : Unit := ()
def tw13330206384072864010 : Unit := ()
def tw3518839801936929445 : Unit := ()
def tw5020459540982531287 : Unit := ()
def tw16436766189592475081 : Unit := ()
def tw13527013404068253437 : Unit := ()
def tw3428201055117067563 : Unit := ()
def tw7117450019756855564 : Unit := ()
def tw7353504957830546326 : Unit := ()
def tw15236323807578627572 : Unit := ()
def tw9707220080124830844 : Unit := ()
def tw6789183426629882037 : Unit := ()
def tw7042573920115666652 : Unit := ()
def tw394042478026227388 : Unit := ()
def tw5642514146068133926 : Unit := ()
def tw9379813097804205474 : Unit := ()
def tw9862103354877898987 : Unit := ()
def tw10478258693471534497 : Unit := ()
def tw6311088362293124026 : Unit := ()
def tw104006951399819741 : Unit := ()
def tw12928811391933064691 : Unit := ()
def tw9820508502905670910 : Unit := ()
def tw5725653419851028676 : Unit := ()
def tw3252020608669933324 : Unit := ()
def tw1548775041739095824 : Unit := ()
def tw10754727646654034609 : Unit := ()
def tw2117074387699034052 : Unit := ()
def tw14338659745409795722 : Unit := ()
def tw2217148012713767554 : Unit := ()
def tw13576280764048556644 : Unit := ()
def tw5325949734651490643 : Unit := ()
def tw10416487459267712569 : Unit := ()
def tw880162556927752699 : Unit := ()
def tw7651464225426658877 : Unit := ()
def tw28115627701228098 : Unit := ()
def tw6435322145749096584 : Unit := ()
def tw3500998811290279376 : Unit := ()
def tw5974169148448082002 : Unit := ()
def tw4073978212659794388 : Unit := ()
def tw4775401692369372118 : Unit := ()
def tw18296021466924263233 : Unit := ()
def tw185445468801407189 : Unit := ()
def tw6626271516144661808 : Unit := ()
def tw7969912946909212634 : Unit := ()
def tw15516878762867217119 : Unit := ()
def tw9809174207502836714 : Unit := ()
def tw10507257246196170632 : Unit := ()
def tw13355442477441093390 : Unit := ()
def tw16646220959975895052 : Unit := ()
def tw16232661334190892306 : Unit := ()
def tw13626186848976348108 : Unit := ()
def tw3171127760431673972 : Unit := ()
def tw10890886673833325393 : Unit := ()
def tw2974951671405321637 : Unit := ()
def tw99797553521055270 : Unit := ()
def tw17490776356430533413 : Unit := ()
def tw7933884911444550314 : Unit := ()
def tw12936655513546351659 : Unit := ()
def tw15056988009381643957 : Unit := ()
def tw607012080439923511 : Unit := ()
def tw4718331355430810010 : Unit := ()
def tw1572167835220511056 : Unit := ()
def tw9344000848257900722 : Unit := ()
def tw5726516912976213464 : Unit := ()
def tw7471520299475852347 : Unit := ()
def tw14254425968055648793 : Unit := ()
def tw788399054753028044 : Unit := ()
def tw14865671585861149020 : Unit := ()
def tw9866306148529013720 : Unit := ()
def tw16225510436293441845 : Unit := ()
def tw16797675285257757210 : Unit := ()
def tw3390436216368012899 : Unit := ()
end PySem.W.Fast
namespace L2
open PySem PySem.Spec PyProof.Rows
abbrev Key := Sum Int Str
def keyIs : Key → Value → Bool
  | .inl k, v => Value.isInt k v
  | .inr x, v => Value.isStrOf x v
def keyH (w : World) : Key → Int
  | .inl k => hashInt k
  | .inr x => hashStr w x
theorem keyIs_shape : ∀ {k : Key} {v : Value}, keyIs k v = true → (∃ i t, k = Sum.inl i ∧ v = Value.int i t) ∨ (∃ x t, k = Sum.inr x ∧ v = Value.str x t)
  | .inl i, v, h => by
    obtain ⟨t, e⟩ := Value.isInt_shape (k := i) (v := v) h
    exact .inl ⟨i, t, rfl, e⟩
  | .inr x, v, h => by
    obtain ⟨t, e⟩ := Value.isStrOf_shape (x := x) (v := v) h
    exact .inr ⟨x, t, rfl, e⟩
theorem key_ll (a b : Int) : decide ((Sum.inl a : Key) = Sum.inl b) = (a == b) := by
  by_cases e : a = b
  · subst e; simp
  · have h : ¬ (Sum.inl a : Key) = Sum.inl b := fun q => e (Sum.inl.inj q)
    rw [decide_eq_false h]
    exact (beq_eq_false_iff_ne.mpr e).symm
theorem key_rr (a b : Str) : decide ((Sum.inr a : Key) = Sum.inr b) = decide (a = b) := by
  by_cases e : a = b
  · subst e; simp
  · have h : ¬ (Sum.inr a : Key) = Sum.inr b := fun q => e (Sum.inr.inj q)
    rw [decide_eq_false h, decide_eq_false e]
theorem key_lr (a : Int) (b : Str) : decide ((Sum.inl a : Key) = Sum.inr b) = false := decide_eq_false (fun q => nomatch q)
theorem key_rl (a : Str) (b : Int) : decide ((Sum.inr a : Key) = Sum.inl b) = false := decide_eq_false (fun q => nomatch q)
def mixKind (prog : Program) (w : World) : PySem.KeyKind prog w Key where
  is := keyIs
  hash := keyH w
  inj := fun v a b ha hb => by
    rcases keyIs_shape ha with ⟨i, t, rfl, rfl⟩ | ⟨x, t, rfl, rfl⟩
    · rcases keyIs_shape hb with ⟨j, u, rfl, e⟩ | ⟨y, u, rfl, e⟩
      · injection e with e1 _; rw [e1]
      · exact nomatch e
    · rcases keyIs_shape hb with ⟨j, u, rfl, e⟩ | ⟨y, u, rfl, e⟩
      · exact nomatch e
      · injection e with e1 _; rw [e1]
  byValue := fun k v h => by
    rcases keyIs_shape h with ⟨i, t, rfl, rfl⟩ | ⟨x, t, rfl, rfl⟩ <;> rfl
  pyHash := fun hv h => by
    rcases keyIs_shape hv with ⟨i, t, rfl, rfl⟩ | ⟨x, t, rfl, rfl⟩
    · exact wpAny_pyHash_int h
    · exact wpAny_pyHash_str h
  eqBool := fun hu hv h => by
    rcases keyIs_shape hu with ⟨i, t, rfl, rfl⟩ | ⟨x, t, rfl, rfl⟩
    · rcases keyIs_shape hv with ⟨j, u, rfl, rfl⟩ | ⟨y, u, rfl, rfl⟩
      · rw [key_ll] at h; exact wpAny_eqBool_int h
      · rw [key_lr] at h; exact SeqAt.EqAt.int_str i t y u _ _ _ _ h
    · rcases keyIs_shape hv with ⟨j, u, rfl, rfl⟩ | ⟨y, u, rfl, rfl⟩
      · rw [key_rl] at h; exact SeqAt.EqAt.str_int x t j u _ _ _ _ h
      · rw [key_rr] at h; exact wpAny_eqBool_str h
  «strs» := fun k x t v h => by
    rcases keyIs_shape h with ⟨i, u, rfl, e⟩ | ⟨y, u, rfl, e⟩
    · exact nomatch e
    · injection e with e1 _
      subst e1
      cases v <;> rfl
end L2
namespace L2
open PySem PySem.Spec PyProof.Rows
inductive V where
  | non | bl (b : Bool) | int (i : Int) | str (x : Str) | byt (b : Array UInt8) | flt (b : UInt64) | ref (a : Addr) | ty (n : String)
  deriving DecidableEq
def RelV : V → Value → Prop
  | .non, u => u = Value.none
  | .bl b, u => u = Value.bool b
  | .int i, u => ∃ t, u = Value.int i t
  | .str x, u => ∃ t, u = Value.str x t
  | .byt b, u => ∃ t, u = Value.bytes b t
  | .flt b, u => ∃ t, u = Value.float b t
  | .ref a, u => u = Value.ref a
  | .ty n, u => u = Value.type n
abbrev Vals : List V → List Value → Prop := Paired RelV
theorem Vals.length {xs : List V} {us : List Value} (r : Vals xs us) : xs.length = us.length := Paired.length r
theorem Vals.get : ∀ {xs : List V} {us : List Value} {i : Nat} {x : V}, Vals xs us → xs[i]? = some x → ∃ u, us[i]? = some u ∧ RelV x u
  | _, _, _, _, .nil, e => by simp at e
  | _, _, 0, _, .cons r _, e => by simp at e; subst e; exact ⟨_, rfl, r⟩
  | _, _, i + 1, x, .cons _ t, e => by
    obtain ⟨u, h1, h2⟩ := Vals.get (i := i) (x := x) t (by simpa using e)
    exact ⟨u, by simpa using h1, h2⟩
theorem Vals.set {x : V} {u : Value} (r : RelV x u) : ∀ {xs : List V} {us : List Value} (i : Nat), Vals xs us → Vals (xs.set i x) (us.set i u)
  | _, _, _, .nil => .nil
  | _, _, 0, .cons _ t => .cons r t
  | _, _, i + 1, .cons q t => .cons q (Vals.set r i t)
theorem Vals.append : ∀ {xs ys : List V} {us ws : List Value}, Vals xs us → Vals ys ws → Vals (xs ++ ys) (us ++ ws)
  | _, _, _, _, .nil, s => s
  | _, _, _, _, .cons r t, s => .cons r (Vals.append t s)
theorem Vals.take : ∀ {xs : List V} {us : List Value} (n : Nat), Vals xs us → Vals (xs.take n) (us.take n)
  | _, _, 0, _ => .nil
  | _, _, _ + 1, .nil => .nil
  | _, _, n + 1, .cons r t => .cons r (Vals.take n t)
theorem Vals.drop : ∀ {xs : List V} {us : List Value} (n : Nat), Vals xs us → Vals (xs.drop n) (us.drop n)
  | _, _, 0, r => r
  | _, _, _ + 1, .nil => .nil
  | _, _, n + 1, .cons _ t => Vals.drop n t
theorem Vals.none_of : ∀ {xs : List V} {us : List Value} {i : Nat}, Vals xs us → xs[i]? = none → us[i]? = none := fun {xs us i} r e => by
  have h1 := r.length
  have h2 : xs.length ≤ i := List.getElem?_eq_none_iff.mp e
  exact List.getElem?_eq_none_iff.mpr (by omega)
def RelO : Option V → Option Value → Prop
  | some v, some u => RelV v u
  | none, none => True
  | _, _ => False
def KV {κ : Type} : List (κ × V) → List (κ × Value) → Prop := Paired fun (p : κ × V) (q : κ × Value) => p.1 = q.1 ∧ RelV p.2 q.2
def kV : Key → V
  | .inl i => .int i
  | .inr x => .str x
inductive HO where
    | lst (xs : List V)
    | tup (xs : List V)
    | dK (kvs : List (Key × V)) | dT (kvs : List (List Key × V))
    | set (S : Int → Bool) (n : Nat)
    | ins (C dx : Addr) (fs : List (Str × V))
    | own (x : Addr)
    | xd (fs : List (Str × V))
    | met (f x : Addr)
    | rng (lo hi : Int)
    | frz (o : Obj) (u : HO)
    | tbl (ps : Array Value)
    | ext (φ : Heap → Prop)
abbrev Hp := Addr → Option HO
def upd (H : Hp) (a : Addr) (o : HO) : Hp := fun b => if b = a then some o else H b
theorem upd_same {H : Hp} {a : Addr} {o : HO} : upd H a o a = some o := by unfold upd; rw [if_pos rfl]
theorem upd_ne {H : Hp} {a b : Addr} {o : HO} (h : b ≠ a) : upd H a o b = H b := by unfold upd; rw [if_neg h]
theorem ne_of_none {H : Hp} {a b : Addr} {o : HO} (h : H a = some o) (h' : H b = none) : a ≠ b := by
  intro e; subst e; rw [h] at h'; cases h'
section
variable (P : Program) (w : World)
def ObjOk (H : Hp) (h : Heap) (a : Addr) : HO → Prop
  | .lst xs => xs.length ≤ sizeLine ∧ ∃ (its : List Value) (n : Nat), Vals xs its ∧ h.get? a = some { cls := .type "list", data := .seq its.toArray n }
  | .tup xs => xs.length ≤ sizeLine ∧ ∃ its : List Value, Vals xs its ∧ IsTup h a its.toArray
  | .dK kvs => kvs.length ≤ sizeLine ∧ (a == sysModules) = false ∧ ∃ vs, KV kvs vs ∧ h.DictOf (mixKind P w) a vs
  | .dT kvs => kvs.length ≤ sizeLine ∧ (a == sysModules) = false ∧ ∃ xs : List (List Key × Addr × Value),
      Paired (fun (p : List Key × V) (q : List Key × Addr × Value) => p.1 = q.1 ∧ H q.2.1 = some (.tup (p.1.map kV)) ∧ RelV p.2 q.2.2) kvs xs ∧
      ∃ o es ep, h.get? a = some o ∧ o.ExactDict ∧ o.data = .dict es ep ∧ es.toList = xs.map (entryOfKey (tupleKind (mixKind P w))) ∧ (xs.map (·.1)).Nodup
  | .set S n => h.SetOf (intKind P w) a S n
  | .ins C dx fs => H dx = some (.own a) ∧ fs.length ≤ 1000 ∧ dx ≠ a ∧ h.get? a = some (PySem.W.instObj C dx) ∧
      ∃ mA, h.Ns1 dx mA ∧ (∀ f, RelO (fs.lookup f) (mA f)) ∧ PySem.Within mA (fs.map (·.1))
  | .own _ => ∃ o, h.get? a = some o
  | .xd fs => ∃ mA, h.Ns1 a mA ∧ ∀ f, RelO (fs.lookup f) (mA f)
  | .rng lo hi => ∃ t u v, h.get? a = some { cls := .type "range", data := .fields #[.int lo t, .int hi u, .int 1 v] }
  | .frz o u => h.get? a = some o ∧ ObjOk H h a u
  | .tbl ps => h.get? a = some { cls := .none, data := .fields ps }
  | .met f x => h.get? a = some (PySem.W.methodObj (.ref f) (.ref x))
  | .ext φ => φ h ∧ (∃ o, h.get? a = some o) ∧ ∀ h1 h2 : Heap, φ h1 → (∀ o, h1.get? a = some o → h2.get? a = some o) → φ h2
def HOk (H : Hp) (h : Heap) : Prop := ∀ a o, H a = some o → ObjOk P w H h a o
end
section
variable {P : Program} {w : World} {H H' : Hp} {h h' : Heap} {a : Addr} {o : HO}
theorem ObjOk.lt (x : ObjOk P w H h a o) : a < h.objs.size := by
  cases o with
  | lst xs => obtain ⟨_, _, _, _, e⟩ := x; exact Heap.lt_size e
  | tup xs => obtain ⟨_, _, _, p⟩ := x; exact p.lt
  | dK kvs => obtain ⟨_, _, _, _, o, _, _, e, _⟩ := x; exact Heap.lt_size e
  | dT kvs => obtain ⟨_, _, _, _, o, _, _, e, _⟩ := x; exact Heap.lt_size e
  | set S n => obtain ⟨o, _, _, _, e, _⟩ := x; exact Heap.lt_size e
  | ins C dx fs => obtain ⟨_, _, _, e, _⟩ := x; exact Heap.lt_size e
  | own y => obtain ⟨_, e⟩ := x; exact Heap.lt_size e
  | xd fs => obtain ⟨_, ⟨_, _, _, e, _⟩, _⟩ := x; exact Heap.lt_size e
  | rng lo hi => obtain ⟨_, _, _, e⟩ := x; exact Heap.lt_size e
  | frz ob u => obtain ⟨e, _⟩ := x; exact Heap.lt_size e
  | tbl ps => exact Heap.lt_size (show h.get? a = some _ from x)
  | met f y => exact Heap.lt_size (show h.get? a = some _ from x)
  | ext φ => obtain ⟨_, ⟨_, e⟩, _⟩ := x; exact Heap.lt_size e
theorem Paired.mapP {α β : Type} {F G : α → β → Prop} : ∀ {l₁ : List α} {l₂ : List β}, Paired F l₁ l₂ → (∀ a b, F a b → G a b) → Paired G l₁ l₂
  | _, _, .nil, _ => .nil
  | _, _, .cons r t, f => .cons (f _ _ r) (Paired.mapP t f)
theorem ObjOk.stay (x : ObjOk P w H h a o) (k : ∀ b u, (b = a ∨ H b = some (.own a)) → h.get? b = some u → h'.get? b = some u)
    (ho : ∀ b, H b = some (.own a) → H' b = some (.own a)) (ht : ∀ b xs, H b = some (.tup xs) → H' b = some (.tup xs)) : ObjOk P w H' h' a o := by
  induction o with
  | lst xs => obtain ⟨z, its, n, r, e⟩ := x; exact ⟨z, its, n, r, k _ _ (.inl rfl) e⟩
  | tup xs => obtain ⟨z, its, r, ob, e, c⟩ := x; exact ⟨z, its, r, ob, k _ _ (.inl rfl) e, c⟩
  | dK kvs => obtain ⟨z, y, vs, r, ob, es, ep, e, c⟩ := x; exact ⟨z, y, vs, r, ob, es, ep, k _ _ (.inl rfl) e, c⟩
  | dT kvs =>
    obtain ⟨z, y, xs, r, ob, es, ep, e, c⟩ := x
    exact ⟨z, y, xs, Paired.mapP r fun p q z => ⟨z.1, ht _ _ z.2.1, z.2.2⟩, ob, es, ep, k _ _ (.inl rfl) e, c⟩
  | set S n => obtain ⟨ob, es, ep, t, e, c⟩ := x; exact ⟨ob, es, ep, t, k _ _ (.inl rfl) e, c⟩
  | ins C dx fs =>
    obtain ⟨d, z, ne, e, mA, ⟨od, es, ep, e2, c⟩, r⟩ := x
    exact ⟨ho _ d, z, ne, k _ _ (.inl rfl) e, mA, ⟨od, es, ep, k _ _ (.inr d) e2, c⟩, r⟩
  | own y => obtain ⟨ob, e⟩ := x; exact ⟨ob, k _ _ (.inl rfl) e⟩
  | xd fs => obtain ⟨mA, ⟨od, es, ep, e, c⟩, r⟩ := x; exact ⟨mA, ⟨od, es, ep, k _ _ (.inl rfl) e, c⟩, r⟩
  | rng lo hi => obtain ⟨t, u, v, e⟩ := x; exact ⟨t, u, v, k _ _ (.inl rfl) e⟩
  | frz ob u ih => obtain ⟨e, q⟩ := x; exact ⟨k _ _ (.inl rfl) e, ih q⟩
  | tbl ps =>
    have e : h.get? a = some { cls := .none, data := .fields ps } := x
    show h'.get? a = some { cls := .none, data := .fields ps }
    exact k a _ (.inl rfl) e
  | met f y =>
    have e : h.get? a = some (PySem.W.methodObj (.ref f) (.ref y)) := x
    show h'.get? a = some (PySem.W.methodObj (.ref f) (.ref y))
    exact k a _ (.inl rfl) e
  | ext φ => obtain ⟨p, ⟨o, e⟩, st⟩ := x; exact ⟨st _ _ p fun o q => k _ _ (.inl rfl) q, ⟨o, k _ _ (.inl rfl) e⟩, st⟩
theorem HOk.lt (x : HOk P w H h) (e : H a = some o) : a < h.objs.size := (x a o e).lt
theorem HOk.fresh (x : HOk P w H h) (e : h.objs.size ≤ a) : H a = none := by
  cases q : H a with
  | none => rfl
  | some u => exact absurd (Nat.lt_of_lt_of_le (x.lt q) e) (Nat.lt_irrefl _)
theorem HOk.kept (x : HOk P w H h) (k : ∀ b u, h.get? b = some u → h'.get? b = some u) : HOk P w H h' := fun a o e =>
  (x a o e).stay (fun b u _ q => k b u q) (fun _ q => q) fun _ _ q => q
theorem HOk.laid (x : HOk P w H h) (k : ∀ b u, h.get? b = some u → h'.get? b = some u) (hp : h.objs.size ≤ a) (new : ObjOk P w (upd H a o) h' a o) : HOk P w (upd H a o) h' := fun b u e => by
  have hn := x.fresh hp
  by_cases hb : b = a
  · subst hb; rw [upd_same] at e; cases e; exact new
  · rw [upd_ne hb] at e
    exact (x b u e).stay (fun c v _ q => k c v q) (fun c q => by rw [upd_ne (ne_of_none q hn)]; exact q) fun c xs q => by rw [upd_ne (ne_of_none q hn)]; exact q
end
def Rd (H : Hp) (a : Addr) (u : HO) : Prop := H a = some u ∨ ∃ o, H a = some (.frz o u)
theorem Rd.of {H : Hp} {a : Addr} {u : HO} (h : H a = some u) : Rd H a u := .inl h
theorem Rd.ok {P : Program} {w : World} {H : Hp} {h : Heap} {a : Addr} {u : HO} (r : Rd H a u) (x : HOk P w H h) : ObjOk P w H h a u := by
  rcases r with r | ⟨o, r⟩
  · exact x a u r
  · obtain ⟨_, q⟩ := x a _ r
    exact q
def Mut : Option HO → Prop
  | some (.lst _) => True
  | some (.dK _) => True
  | some (.dT _) => True
  | some (.set _ _) => True
  | some (.ins _ _ _) => True
  | some (.ext _) => True
  | _ => False
section
variable {P : Program} {w : World} {H : Hp} {h h' : Heap} {x e : Addr} {o' : HO}
theorem HOk.write (ok : HOk P w H h) (mu : Mut (H x)) (he : e = x ∨ H e = some (.own x)) (k : ∀ b u, b ≠ e → h.get? b = some u → h'.get? b = some u) (heo : ∃ u, h'.get? e = some u)
    (new : ObjOk P w (upd H x o') h' x o') : HOk P w (upd H x o') h' := fun b u q => by
  have nown : ∀ c y, H c = some (.own y) → c ≠ x := fun c y r z => by subst z; rw [r] at mu; exact mu
  have ntup : ∀ c xs, H c = some (.tup xs) → c ≠ x := fun c xs r z => by subst z; rw [r] at mu; exact mu
  by_cases hb : b = x
  · subst hb; rw [upd_same] at q; cases q; exact new
  · rw [upd_ne hb] at q
    by_cases hbe : b = e
    · have q' : H b = some (.own x) := by
        rcases he with z | z
        · exact absurd (hbe.trans z) hb
        · rw [hbe]; exact z
      rw [q] at q'; cases q'
      obtain ⟨v, hv⟩ := heo
      exact ⟨v, by rw [hbe]; exact hv⟩
    · refine (ok b u q).stay (fun c v hc r => k c v ?_ r) (fun c r => by rw [upd_ne (nown c b r)]; exact r) fun c xs r => by rw [upd_ne (ntup c xs r)]; exact r
      rcases hc with rfl | hc
      · exact hbe
      · rintro rfl
        rcases he with z | z
        · exact nown c b hc z
        · rw [hc] at z; cases z; exact hb rfl
end
structure Un (fs ex : List Addr) (H H' : Hp) (h h' : Heap) : Prop where
  keep : ∀ b o, h.get? b = some o → H b = none → b ∉ fs → b ∉ ex → h'.get? b = some o
  slot : ∀ b o, h.get? b = some o → H b = none → b ∈ fs → b ∉ ex → ∃ sl, h'.get? b = some { o with slots := sl }
  free : ∀ b o, h.get? b = some o → H b = none → b ∉ ex → H' b = none
  there : ∀ b o, h.get? b = some o → b ∉ ex → ∃ o', h'.get? b = some o'
  tups : ∀ b xs, H b = some (.tup xs) → H' b = some (.tup xs)
  frzs : ∀ b o u, H b = some (.frz o u) → H' b = some (.frz o u)
  tbls : ∀ b ps, H b = some (.tbl ps) → ∃ more, H' b = some (.tbl (ps ++ more))
section
variable {fs fs' ex ex' : List Addr} {H H1 H2 : Hp} {h h1 h2 h' : Heap} {a x e : Addr} {o : HO}
theorem Un.any (u : Un fs ex H H1 h h1) {b : Addr} {ob : Obj} (q : h.get? b = some ob) (n : H b = none) (hx : b ∉ ex) : ∃ sl, h1.get? b = some { ob with slots := sl } := by
  by_cases hb : b ∈ fs
  · exact u.slot b ob q n hb hx
  · exact ⟨ob.slots, u.keep b ob q n hb hx⟩
theorem Un.trans (a : Un fs ex H H1 h h1) (b : Un fs ex H1 H2 h1 h2) : Un fs ex H H2 h h2 where
  keep := fun c ob q n hc hx => b.keep c ob (a.keep c ob q n hc hx) (a.free c ob q n hx) hc hx
  slot := fun c ob q n hc hx => by
    obtain ⟨sl, e1⟩ := a.slot c ob q n hc hx
    obtain ⟨sl', e2⟩ := b.slot c _ e1 (a.free c ob q n hx) hc hx
    exact ⟨sl', e2⟩
  free := fun c ob q n hx => by
    obtain ⟨o', e1⟩ := a.there c ob q hx
    exact b.free c o' e1 (a.free c ob q n hx) hx
  there := fun c ob q hx => by
    obtain ⟨o', e1⟩ := a.there c ob q hx
    exact b.there c o' e1 hx
  tups := fun c xs q => b.tups c xs (a.tups c xs q)
  frzs := fun c ob xs q => b.frzs c ob xs (a.frzs c ob xs q)
  tbls := fun c ps q => by
    obtain ⟨m1, e1⟩ := a.tbls c ps q
    obtain ⟨m2, e2⟩ := b.tbls c _ e1
    exact ⟨m1 ++ m2, by rw [e2, Array.append_assoc]⟩
theorem Un.kept (k : ∀ b u, h.get? b = some u → h'.get? b = some u) : Un fs ex H H h h' :=
  ⟨fun b ob q _ _ _ => k b ob q, fun b ob q _ _ _ => ⟨ob.slots, k b ob q⟩, fun _ _ _ n _ => n, fun b ob q _ => ⟨ob, k b ob q⟩, fun _ _ q => q, fun _ _ _ q => q, fun _ ps q => ⟨#[], by rw [q]; simp⟩⟩
theorem Un.refl : Un fs ex H H h h := Un.kept fun _ _ q => q
theorem Un.laid (k : ∀ b u, h.get? b = some u → h'.get? b = some u) (hp : h.objs.size ≤ a) (hn : H a = none) : Un fs ex H (upd H a o) h h' where
  keep := fun b u q _ _ _ => k b u q
  slot := fun b u q _ _ _ => ⟨u.slots, k b u q⟩
  free := fun b u q n _ => by rw [upd_ne (Nat.ne_of_lt (Nat.lt_of_lt_of_le (Heap.lt_size q) hp))]; exact n
  there := fun b u q _ => ⟨u, k b u q⟩
  tups := fun b xs q => by rw [upd_ne (ne_of_none q hn)]; exact q
  frzs := fun b u xs q => by rw [upd_ne (ne_of_none q hn)]; exact q
  tbls := fun b ps q => ⟨#[], by rw [upd_ne (ne_of_none q hn), q]; simp⟩
theorem Un.write (mu : Mut (H x)) (he : e = x ∨ H e = some (.own x)) (k : ∀ b u, b ≠ e → h.get? b = some u → h'.get? b = some u) (heo : ∃ u, h'.get? e = some u) : Un fs ex H (upd H x o) h h' := by
  have hx : ∀ b, H b = none → b ≠ x := fun b n z => by subst z; rw [n] at mu; exact mu
  have hb : ∀ b, H b = none → b ≠ e := fun b n z => by
    subst z
    rcases he with r | r
    · exact hx b n r
    · rw [n] at r; cases r
  have hm : ∀ b u, H b = some u → ¬ Mut (some u) → b ≠ x := fun b u q nm z => by subst z; rw [q] at mu; exact nm mu
  refine ⟨fun b u q n _ _ => k b u (hb b n) q, fun b u q n _ _ => ⟨u.slots, k b u (hb b n) q⟩, fun b u q n _ => by rw [upd_ne (hx b n)]; exact n, fun b u q _ => ?_,
    fun b xs q => by rw [upd_ne (hm b _ q fun z => z)]; exact q, fun b u xs q => by rw [upd_ne (hm b _ q fun z => z)]; exact q, fun b ps q => ⟨#[], by rw [upd_ne (hm b _ q fun z => z), q]; simp⟩⟩
  by_cases hbe : b = e
  · subst hbe; exact heo
  · exact ⟨u, k b u hbe q⟩
theorem Un.mono (u : Un fs ex H H1 h h1) (hs : ∀ b ∈ fs, b ∈ fs') (hx : ∀ b ∈ ex, b ∈ ex') : Un fs' ex' H H1 h h1 :=
  ⟨fun b ob q n hb he => u.keep b ob q n (fun z => hb (hs b z)) fun z => he (hx b z), fun _ _ q n _ he => u.any q n fun z => he (hx _ z), fun b ob q n he => u.free b ob q n fun z => he (hx b z), fun b ob q he => u.there b ob q fun z => he (hx b z), u.tups, u.frzs, u.tbls⟩
end
def trk (h : Heap) (H : Hp) : List Addr := (List.range h.objs.size).filter fun a => (H a).isSome
def hidT (h : Heap) (H : Hp) : Heap := PySem.W.hideAll h (trk h H)
theorem hidT_size (h : Heap) (H : Hp) : (hidT h H).objs.size = h.objs.size := PySem.W.hideAll_size _ _
theorem hidT_get {h : Heap} {H : Hp} {b : Addr} {o : Obj} (e : h.get? b = some o) (n : H b = none) : (hidT h H).get? b = some o :=
  PySem.W.hideAll_get _ e fun hm => by
    have q : (H b).isSome = true := (List.mem_filter.mp hm).2
    rw [n] at q; simp at q
theorem of_hidT {h : Heap} {H : Hp} {b : Addr} {o : Obj} (e : (hidT h H).get? b = some o) : h.get? b = some o ∧ H b = none := by
  have e' : h.get? b = some o := PySem.W.of_hideAll (trk h H) e
  refine ⟨e', ?_⟩
  cases q : H b with
  | none => rfl
  | some x =>
    have hm : b ∈ trk h H := List.mem_filter.mpr ⟨List.mem_range.mpr (Heap.lt_size e'), by simp [q]⟩
    have z : (hidT h H).get? b = none := PySem.W.hideAll_none (trk h H) hm
    rw [z] at e; cases e
def allNews (g h : Heap) (L : Addr) : List (Addr × Obj) := (List.range h.objs.size).filterMap fun a => if a = L ∨ (g.get? a).isSome = true then none else (h.get? a).map fun o => (a, o)
def rest (g h : Heap) (L d : Addr) : List (Addr × Obj) := (allNews g h L).filter fun p => decide (p.1 ≠ d)
end L2
namespace L2
open PySem PySem.Spec PyProof.Rows
structure Mod (K : PySem.W.Frag) (mg : Str → Option Value) (base : Heap) : Prop where
  kin : K.In base
  glob : base.Ns mainGlobals mg
  blt : ∃ mb, base.Ns builtinsNs mb ∧ ∀ x : Str, x ≠ "__name__" → mb x = bootBuiltins x
  nolimit : base.NoLimit
structure Cx where
  prog : Program
  w : World
  K : PySem.W.Frag
  mg : Str → Option Value
  base : Heap
  A : Around
  N : List Str
  s₀ : Shared
  H₀ : Hp
  env : Env
  outer : List Env
  stack : List Env
  ex : List Addr
  fn : Str → Bool
  calm : Bool
  pn : List (Addr × Obj)
  xe : Value → Shared → Prop
def frs (l : List Env) : List Addr := l.filterMap (·.frame)
abbrev Cx.fs (X : Cx) : List Addr := frs X.outer
def Vis (sc : Scope) (x : Str) : Prop := sc.names.lookup x = some .local ∨ sc.names.lookup x = some .cell ∨ sc.names.lookup x = some .free
def Loc (sc : Scope) (x : Str) : Prop := sc.names.lookup x = some .local ∨ sc.names.lookup x = some .cell
def Look (env : Env) (h : Heap) (m : Str → Option Value) (x : Str) (u : Value) : Prop :=
  (env.kindOf x = some .local ∧ m x = some u) ∨ ((env.kindOf x = some .cell ∨ env.kindOf x = some .free) ∧ ∃ c, env.cells.lookup x = some c ∧ h.IsCell c (some u))
structure Cx.Ok (X : Cx) : Prop where
  mod : Mod X.K X.mg X.base
  kind : X.env.scope.kind = .function
  glob : X.env.globals = mainGlobals
  blt : X.env.builtins = builtinsNs
  above : X.s₀.heap.objs.size ≤ X.env.locals
  inj : ∀ x y c, X.env.cells.lookup x = some c → X.env.cells.lookup y = some c → x = y
  has : ∀ x, (X.env.kindOf x = some .cell ∨ X.env.kindOf x = some .free) → ∃ c, X.env.cells.lookup x = some c
  cab : ∀ x c, X.fn x = true → X.env.cells.lookup x = some c → X.s₀.heap.objs.size ≤ c
  hd : X.calm = true → X.A.handled = none
  frames : X.A.frames = some X.stack
  stk : X.stack = X.outer ∨ (X.stack = X.env :: X.outer ∧ X.env.frame = some X.env.locals)
  exf : ∀ b ∈ X.ex, b ≠ X.env.locals ∧ ∀ x c, X.env.cells.lookup x = some c → c ≠ b
  bs : ∀ b o, X.base.get? b = some o → X.s₀.heap.get? b = some o ∧ X.H₀ b = none
  bsz : X.base.objs.size ≤ X.s₀.heap.objs.size
  noex : ∀ b o, X.base.get? b = some o → b ∉ X.ex
  exfs : ∀ b ∈ X.ex, b ∉ X.fs
  funs : X.s₀.heap.FunFrames X.base X.outer
  frf : ∀ b ∈ X.fs, X.H₀ b = none
structure Inv (X : Cx) (pins : List (Addr × Obj)) (σ : List (Option V)) (H : Hp) (s : Shared) : Prop where
  ok : X.Ok
  os : s.os = X.s₀.os
  bare : AllBare s.gens
  base : Un X.fs X.ex X.H₀ H X.s₀.heap s.heap
  loc : ∃ m, s.heap.Ns X.env.locals m ∧ ∀ (i : Nat) (x : Str) (v : V), X.N[i]? = some x → σ[i]? = some (some v) → Vis X.env.scope x → ∃ u, RelV v u ∧ Look X.env s.heap m x u
  cell : ∀ x c, X.env.cells.lookup x = some c → ∃ v, s.heap.IsCell c v
  free : H X.env.locals = none
  freeC : ∀ x c, X.env.cells.lookup x = some c → H c = none
  pin : ∀ p ∈ X.pn ++ pins, s.heap.get? p.1 = some p.2 ∧ H p.1 = none ∧ p.1 ≠ X.env.locals ∧ p.1 ∉ X.fs ∧ ∀ v, p.2.data ≠ .cell v
  hok : HOk X.prog X.w H s.heap
  len : σ.length = X.N.length
section
variable {X : Cx} {pins : List (Addr × Obj)} {σ : List (Option V)} {H H' : Hp} {s : Shared} {h' : Heap}
theorem Cx.Ok.nofr (ok : X.Ok) {b : Addr} {o : Obj} (e : X.base.get? b = some o) : b ∉ X.fs := fun hb => by
  have := (ok.funs.mem hb).1
  rw [e] at this; cases this
theorem Inv.bs (I : Inv X pins σ H s) : ∀ b o, X.base.get? b = some o → s.heap.get? b = some o ∧ H b = none := fun b o e =>
  ⟨I.base.keep b o (I.ok.bs b o e).1 (I.ok.bs b o e).2 (I.ok.nofr e) (I.ok.noex b o e), I.base.free b o (I.ok.bs b o e).1 (I.ok.bs b o e).2 (I.ok.noex b o e)⟩
theorem Inv.bk (I : Inv X pins σ H s) : ∀ b o, X.base.get? b = some o → s.heap.get? b = some o := fun b o e => (I.bs b o e).1
theorem Inv.mod (I : Inv X pins σ H s) : Mod X.K X.mg X.base := I.ok.mod
theorem Inv.kIn (I : Inv X pins σ H s) : X.K.In s.heap := I.ok.mod.kin.keeps I.bk
theorem Inv.nolimit (I : Inv X pins σ H s) : s.heap.NoLimit := I.ok.mod.nolimit.keeps I.bk
theorem Inv.fr (I : Inv X pins σ H s) : ∃ m, Fr X.base X.env.locals s.heap m :=
  let ⟨m, hn, _⟩ := I.loc
  ⟨m, hn, I.bk, Nat.le_trans I.ok.bsz I.ok.above⟩
theorem Inv.lt (I : Inv X pins σ H s) : X.env.locals < s.heap.objs.size := let ⟨_, hn, _⟩ := I.loc; hn.lt
theorem Inv.sz (I : Inv X pins σ H s) : X.s₀.heap.objs.size ≤ s.heap.objs.size := Nat.le_trans I.ok.above (Nat.le_of_lt I.lt)
theorem Inv.nofs (I : Inv X pins σ H s) {a : Addr} (h : s.heap.objs.size ≤ a) : a ∉ X.fs := fun hb => by
  obtain ⟨_, o, ho, _⟩ := I.ok.funs.mem hb
  exact absurd (Nat.lt_of_lt_of_le (Heap.lt_size ho) (Nat.le_trans I.sz h)) (Nat.lt_irrefl _)
theorem Inv.cne (I : Inv X pins σ H s) : ∀ x c, X.env.cells.lookup x = some c → c ≠ X.env.locals := fun x c e z => by
  obtain ⟨v, o, ho, hd⟩ := I.cell x c e
  obtain ⟨m, ⟨o', es, ep, ho', hd', _⟩, _⟩ := I.loc
  rw [z, ho'] at ho; cases ho; rw [hd'] at hd; cases hd
theorem Inv.funs (I : Inv X pins σ H s) : s.heap.FunFrames X.base X.outer := by
  have all : ∀ (l : List Env), (∀ b ∈ frs l, b ∈ X.fs) → X.s₀.heap.FunFrames X.base l → s.heap.FunFrames X.base l := by
    intro l
    induction l with
    | nil => intro _ _; trivial
    | cons env r ih =>
      intro hs hl
      obtain ⟨hk, ⟨L, o, hf, hn, ho, hd⟩, hr⟩ := hl
      have hL : L ∈ X.fs := hs L (by unfold frs; rw [List.filterMap_cons, hf]; exact List.mem_cons_self)
      obtain ⟨sl, e⟩ := I.base.slot L o ho (I.ok.frf L hL) hL fun z => I.ok.exfs L z hL
      exact ⟨hk, ⟨L, _, hf, hn, e, hd⟩, ih (fun b hb => hs b (by unfold frs; rw [List.filterMap_cons, hf]; exact List.mem_cons_of_mem _ hb)) hr⟩
  exact all X.outer (fun _ hb => hb) I.ok.funs
theorem Inv.stack (I : Inv X pins σ H s) : s.heap.FunFrames X.base X.stack := by
  rcases I.ok.stk with e | ⟨e, hf⟩
  · rw [e]; exact I.funs
  · rw [e]
    obtain ⟨m, hn, _⟩ := I.loc
    refine .cons (by rw [I.ok.kind]; decide) hf hn ?_ I.funs
    exact Heap.get?_none_of_le (Nat.le_trans I.ok.bsz I.ok.above)
theorem Inv.stkSub (I : Inv X pins σ H s) : ∀ b ∈ frs X.stack, b ∈ X.env.locals :: X.fs := fun b hb => by
  rcases I.ok.stk with e | ⟨e, hf⟩
  · rw [e] at hb; exact List.mem_cons_of_mem _ hb
  · rw [e] at hb
    unfold frs at hb
    rw [List.filterMap_cons, hf] at hb
    exact hb
theorem Inv.stkFree (I : Inv X pins σ H s) : ∀ b ∈ frs X.stack, H b = none := fun b hb => by
  rcases List.mem_cons.mp (I.stkSub b hb) with e | hb
  · rw [e]; exact I.free
  · obtain ⟨_, o, ho, _⟩ := I.ok.funs.mem hb
    exact I.base.free b o ho (I.ok.frf b hb) fun z => I.ok.exfs b z hb
theorem Inv.step {g' : Array GenState} {t' : Nat} {d' : Drawn} {ch : List Addr} (I : Inv X pins σ H s)
    (hch : ∀ b ∈ ch, (b ∈ X.ex ∨ X.s₀.heap.objs.size ≤ b) ∧ b ≠ X.env.locals ∧ (∀ x c, X.env.cells.lookup x = some c → c ≠ b) ∧ ∀ p ∈ X.pn ++ pins, p.1 ≠ b)
    (keep : ∀ b o, b ≠ X.env.locals → b ∉ X.fs → b ∉ ch → s.heap.get? b = some o → H b = none → h'.get? b = some o)
    (slot : ∀ b o, b ≠ X.env.locals → b ∈ X.fs → b ∉ ch → s.heap.get? b = some o → H b = none → ∃ sl, h'.get? b = some { o with slots := sl }) (free : ∀ b o, b ∉ ch → s.heap.get? b = some o → H b = none → H' b = none)
    (there : ∀ b o, b ∉ ch → s.heap.get? b = some o → ∃ o', h'.get? b = some o')
    (tups : ∀ b xs, H b = some (.tup xs) → H' b = some (.tup xs)) (frzs : ∀ b o u, H b = some (.frz o u) → H' b = some (.frz o u)) (tbls : ∀ b ps, H b = some (.tbl ps) → ∃ more, H' b = some (.tbl (ps ++ more)))
    (ns : ∀ m, s.heap.Ns X.env.locals m → h'.Ns X.env.locals m) (hok : HOk X.prog X.w H' h') (hg : AllBare g') :
    Inv X pins σ H' { s with heap := h', gens := g', drawn := d', toks := t' } := by
  have neL : ∀ b o, X.s₀.heap.get? b = some o → b ≠ X.env.locals := fun b o e => Nat.ne_of_lt (Nat.lt_of_lt_of_le (Heap.lt_size e) I.ok.above)
  have neC : ∀ b o, X.s₀.heap.get? b = some o → b ∉ X.ex → b ∉ ch := fun b o e hx hb => by
    rcases (hch b hb).1 with z | z
    · exact hx z
    · exact absurd (Nat.lt_of_lt_of_le (Heap.lt_size e) z) (Nat.lt_irrefl _)
  have cellK : ∀ x c, X.env.cells.lookup x = some c → ∀ v, s.heap.IsCell c v → h'.IsCell c v := fun x c e v ⟨o, ho, hd⟩ => by
    have nch : c ∉ ch := fun z => (hch c z).2.2.1 x c e rfl
    by_cases hc : c ∈ X.fs
    · obtain ⟨sl, q⟩ := slot c o (I.cne x c e) hc nch ho (I.freeC x c e)
      exact ⟨_, q, hd⟩
    · exact ⟨o, keep c o (I.cne x c e) hc nch ho (I.freeC x c e), hd⟩
  refine ⟨I.ok, I.os, hg, ⟨fun b o e n hb hx => ?_, fun b o e n hb hx => ?_, fun b o e n hx => ?_, fun b o e hx => ?_, fun b xs e => tups b xs (I.base.tups b xs e), fun b o xs e => frzs b o xs (I.base.frzs b o xs e), fun b ps e => ?_⟩, ?_, fun x c e => ?_, ?_, fun x c e => ?_, fun p hp => ?_, hok, I.len⟩
  · exact keep b o (neL b o e) hb (neC b o e hx) (I.base.keep b o e n hb hx) (I.base.free b o e n hx)
  · obtain ⟨sl, e1⟩ := I.base.slot b o e n hb hx
    obtain ⟨sl', e2⟩ := slot b _ (neL b o e) hb (neC b o e hx) e1 (I.base.free b o e n hx)
    exact ⟨sl', e2⟩
  · obtain ⟨o', e1⟩ := I.base.there b o e hx
    exact free b o' (neC b o e hx) e1 (I.base.free b o e n hx)
  · obtain ⟨o', e1⟩ := I.base.there b o e hx
    exact there b o' (neC b o e hx) e1
  · obtain ⟨m1, e1⟩ := I.base.tbls b ps e
    obtain ⟨m2, e2⟩ := tbls b _ e1
    exact ⟨m1 ++ m2, by rw [e2, Array.append_assoc]⟩
  · obtain ⟨m, hn, hl⟩ := I.loc
    refine ⟨m, ns m hn, fun i x v e1 e2 e3 => ?_⟩
    obtain ⟨u, r, l⟩ := hl i x v e1 e2 e3
    refine ⟨u, r, ?_⟩
    rcases l with l | ⟨k, c, e, z⟩
    · exact .inl l
    · exact .inr ⟨k, c, e, cellK x c e _ z⟩
  · obtain ⟨v, z⟩ := I.cell x c e
    exact ⟨v, cellK x c e v z⟩
  · obtain ⟨m, ⟨o, _, _, ho, _⟩, _⟩ := I.loc
    exact free _ o (fun z => (hch _ z).2.1 rfl) ho I.free
  · obtain ⟨v, o, ho, hd⟩ := I.cell x c e
    exact free c o (fun z => (hch c z).2.2.1 x c e rfl) ho (I.freeC x c e)
  · obtain ⟨e, n, ne, nf, d⟩ := I.pin p hp
    have nch : p.1 ∉ ch := fun z => (hch p.1 z).2.2.2 p hp rfl
    exact ⟨keep p.1 p.2 ne nf nch e n, free p.1 p.2 nch e n, ne, nf, d⟩
theorem Inv.un {t' : Nat} (I : Inv X pins σ H s) (u : Un X.fs [] H H' s.heap h') (hok : HOk X.prog X.w H' h') : Inv X pins σ H' { s with heap := h', toks := t' } := by
  obtain ⟨m, ⟨o, es, ep, ho, r⟩, _⟩ := id I.loc
  obtain ⟨sl, hL⟩ := u.any ho I.free (by simp)
  exact I.step (g' := s.gens) (d' := s.drawn) (ch := []) (fun _ z => nomatch z) (fun b o _ hb _ e n => u.keep b o e n hb (by simp)) (fun b o _ hb _ e n => u.slot b o e n hb (by simp)) (fun b o _ e n => u.free b o e n (by simp)) (fun b o _ e => u.there b o e (by simp)) u.tups u.frzs u.tbls (fun m' hm => by
    obtain ⟨o', es', ep', ho', r'⟩ := hm
    rw [ho] at ho'; cases ho'
    exact ⟨_, es', ep', hL, r'⟩) hok I.bare
theorem Inv.call {g' : Array GenState} {t' : Nat} {d' : Drawn} {ch : List Addr} (I : Inv X pins σ H s) (u : Un (frs X.stack) ch H H' s.heap h') (hok : HOk X.prog X.w H' h') (hg : AllBare g')
    (hch : ∀ b ∈ ch, (b ∈ X.ex ∨ X.s₀.heap.objs.size ≤ b) ∧ b ≠ X.env.locals ∧ (∀ x c, X.env.cells.lookup x = some c → c ≠ b) ∧ ∀ p ∈ X.pn ++ pins, p.1 ≠ b) :
    Inv X pins σ H' { s with heap := h', gens := g', drawn := d', toks := t' } := by
  obtain ⟨m, ⟨o, es, ep, ho, r⟩, _⟩ := id I.loc
  obtain ⟨sl, hL⟩ := u.any ho I.free fun z => (hch _ z).2.1 rfl
  exact I.step (ch := ch) hch (fun b o hL hb hc e n => u.keep b o e n (fun z => (List.mem_cons.mp (I.stkSub b z)).elim hL hb) hc) (fun b o _ _ hc e n => u.any e n hc) (fun b o hc e n => u.free b o e n hc) (fun b o hc e => u.there b o e hc) u.tups u.frzs u.tbls (fun m' hm => by
    obtain ⟨o', es', ep', ho', r'⟩ := hm
    rw [ho] at ho'; cases ho'
    exact ⟨_, es', ep', hL, r'⟩) hok hg
theorem Inv.turned {t' : Nat} {it : Addr} (I : Inv X pins σ H s) (k : ∀ b o, b ≠ it → s.heap.get? b = some o → h'.get? b = some o) (hn : H it = none) (hL : it ≠ X.env.locals)
    (h1 : it ∈ X.ex ∨ X.s₀.heap.objs.size ≤ it) (h2 : ∀ x c, X.env.cells.lookup x = some c → c ≠ it) (h3 : ∀ p ∈ X.pn ++ pins, p.1 ≠ it) : Inv X pins σ H { s with heap := h', toks := t' } := by
  have nit : ∀ b u, H b = some u → b ≠ it := fun b u e z => by rw [z, hn] at e; cases e
  refine I.step (g' := s.gens) (d' := s.drawn) (ch := [it]) (fun b hb => ?_) (fun b o _ _ hc e _ => k b o (fun z => hc (by simp [z])) e) (fun b o _ _ hc e _ => ⟨o.slots, k b o (fun z => hc (by simp [z])) e⟩) (fun _ _ _ _ n => n)
    (fun b o hc e => ⟨o, k b o (fun z => hc (by simp [z])) e⟩) (fun _ _ e => e) (fun _ _ _ e => e) (fun b ps e => ⟨#[], by rw [e]; simp⟩) (fun m hm => ?_) (fun b u e => ?_) I.bare
  · have e : b = it := by simpa using hb
    subst e
    exact ⟨h1, hL, h2, h3⟩
  · obtain ⟨o, es, ep, ho, r⟩ := hm
    exact ⟨o, es, ep, k _ o (Ne.symm hL) ho, r⟩
  · refine (I.hok b u e).stay (fun c v hc q => k c v ?_ q) (fun _ q => q) fun _ _ q => q
    rcases hc with z | z
    · rw [z]; exact nit b u e
    · exact nit c _ z
theorem Inv.tok (I : Inv X pins σ H s) (t : Nat) : Inv X pins σ H { s with toks := t } := I.un (h' := s.heap) (t' := t) Un.refl I.hok
theorem Inv.kept {t' : Nat} (I : Inv X pins σ H s) (k : ∀ b u, s.heap.get? b = some u → h'.get? b = some u) : Inv X pins σ H { s with heap := h', toks := t' } := I.un (Un.kept k) (I.hok.kept k)
theorem Inv.laid {a : Addr} {o : HO} {t' : Nat} (I : Inv X pins σ H s) (k : ∀ b u, s.heap.get? b = some u → h'.get? b = some u) (hp : s.heap.objs.size ≤ a) (new : ObjOk X.prog X.w (upd H a o) h' a o) :
    Inv X pins σ (upd H a o) { s with heap := h', toks := t' } := I.un (Un.laid k hp (I.hok.fresh hp)) (I.hok.laid k hp new)
theorem Inv.write {x e : Addr} {o : HO} {t' : Nat} (I : Inv X pins σ H s) (mu : Mut (H x)) (he : e = x ∨ H e = some (.own x)) (k : ∀ b u, b ≠ e → s.heap.get? b = some u → h'.get? b = some u) (heo : ∃ u, h'.get? e = some u)
    (new : ObjOk X.prog X.w (upd H x o) h' x o) : Inv X pins σ (upd H x o) { s with heap := h', toks := t' } := I.un (Un.write mu he k heo) (I.hok.write mu he k heo new)
theorem Inv.pins_of {pins' : List (Addr × Obj)} (I : Inv X pins σ H s) (h : ∀ p ∈ pins', s.heap.get? p.1 = some p.2 ∧ H p.1 = none ∧ p.1 ≠ X.env.locals ∧ p.1 ∉ X.fs ∧ ∀ v, p.2.data ≠ .cell v) : Inv X pins' σ H s :=
  ⟨I.ok, I.os, I.bare, I.base, I.loc, I.cell, I.free, I.freeC, fun p hp => (List.mem_append.mp hp).elim (fun z => I.pin p (List.mem_append_left _ z)) (h p), I.hok, I.len⟩
theorem nodup_ix {N : List Str} (hN : N.Nodup) {i j : Nat} {x : Str} (a : N[i]? = some x) (b : N[j]? = some x) : i = j := by
  obtain ⟨h1, e1⟩ := List.getElem?_eq_some_iff.mp a
  obtain ⟨h2, e2⟩ := List.getElem?_eq_some_iff.mp b
  exact (List.getElem_inj hN).mp (e1.trans e2.symm)
theorem store_ok2 {M : Model} {A : Around} {E : Value → Shared → Prop} {i : Nat} {x : Str} {v : V} {u : Value} {Q : Unit → Shared → Prop} (I : Inv X pins σ H s) (hN : X.N.Nodup) (hi : X.N[i]? = some x) (hx : Loc X.env.scope x) (r : RelV v u)
    (h : ∀ s', Inv X pins (σ.set i (some v)) H s' → (∃ a, Heap.SameBut a s.heap s'.heap ∧ (a = X.env.locals ∨ X.env.cells.lookup x = some a)) → Q () s') (hf : X.fn x = true ∨ X.env.scope.names.lookup x = some .local := by first | exact .inl rfl | exact .inr rfl | assumption) : wpAny M A (storeName X.env x u) Q E s := by
  obtain ⟨m, hn, hl⟩ := id I.loc
  have hcls : (X.env.scope.kind == .class || (X.env.scope.kind == .module && X.env.locals != X.env.globals)) = false := by rw [I.ok.kind]; rfl
  have hiσ : i < σ.length := by rw [I.len]; exact (List.getElem?_eq_some_iff.mp hi).1
  have cne := I.cne
  have tracked : ∀ {a : Addr} {h' : Heap}, (∃ o, s.heap.get? a = some o ∧ H a = none) → Heap.SameBut a s.heap h' → HOk X.prog X.w H h' := fun {a h'} ha hs b ob e => by
    obtain ⟨_, _, hfree⟩ := ha
    refine (I.hok b ob e).stay (fun c w' hc q => (hs.2 c ?_).trans q) (fun _ q => q) fun _ _ q => q
    rintro rfl
    rcases hc with rfl | hc
    · rw [hfree] at e; cases e
    · rw [hfree] at hc; cases hc
  rcases hx with hk | hk
  · refine wpAny_storeName_local hk hn (fun h' hn' hs => ?_) hcls
    obtain ⟨oL, _, _, hoL, _⟩ := id hn
    refine h _ ⟨I.ok, I.os, I.bare, ⟨fun b o e n hb hx => ?_, fun b o e n hb hx => ?_, I.base.free, fun b o e hx => ?_, I.base.tups, I.base.frzs, I.base.tbls⟩, ⟨_, hn', fun j y v' e1 e2 e3 => ?_⟩, fun y c e => ?_, I.free, I.freeC, fun p hp => ?_, tracked ⟨oL, hoL, I.free⟩ hs, by simpa using I.len⟩ ⟨_, hs, .inl rfl⟩
    · exact (hs.2 b (Nat.ne_of_lt (Nat.lt_of_lt_of_le (Heap.lt_size e) I.ok.above))).trans (I.base.keep b o e n hb hx)
    · obtain ⟨sl, e1⟩ := I.base.slot b o e n hb hx
      exact ⟨sl, (hs.2 b (Nat.ne_of_lt (Nat.lt_of_lt_of_le (Heap.lt_size e) I.ok.above))).trans e1⟩
    · obtain ⟨o', e1⟩ := I.base.there b o e hx
      exact ⟨o', (hs.2 b (Nat.ne_of_lt (Nat.lt_of_lt_of_le (Heap.lt_size e) I.ok.above))).trans e1⟩
    · by_cases hj : j = i
      · subst hj
        rw [hi] at e1; cases e1
        rw [List.getElem?_set_self hiσ] at e2
        cases e2
        exact ⟨u, r, .inl ⟨hk, by simp⟩⟩
      · rw [List.getElem?_set_ne (Ne.symm hj)] at e2
        obtain ⟨u', r', q⟩ := hl j y v' e1 e2 e3
        refine ⟨u', r', ?_⟩
        rcases q with ⟨k, e⟩ | ⟨k, c, e, z⟩
        · refine .inl ⟨k, ?_⟩
          have : y ≠ x := fun e => hj (nodup_ix hN e1 (e ▸ hi))
          simp [this, e]
        · exact .inr ⟨k, c, e, z.sameBut hs (cne y c e)⟩
    · obtain ⟨w', z⟩ := I.cell y c e
      exact ⟨w', z.sameBut hs (cne y c e)⟩
    · obtain ⟨e, n, ne, nf, d⟩ := I.pin p hp
      exact ⟨(hs.2 p.1 ne).trans e, n, ne, nf, d⟩
  · have hfn : X.fn x = true := by
      rcases hf with z | z
      · exact z
      · rw [z] at hk; cases hk
    obtain ⟨c, hc⟩ := I.ok.has x (.inl hk)
    obtain ⟨w', z⟩ := I.cell x c hc
    refine wpAny_storeName_cell I.ok.kind hk hc z (fun h' hc' hs => ?_)
    obtain ⟨oc, hoc, hocd⟩ := id z
    refine h { s with heap := h' } ⟨I.ok, I.os, I.bare, ⟨fun b o e n hb hx => ?_, fun b o e n hb hx => ?_, I.base.free, fun b o e hx => ?_, I.base.tups, I.base.frzs, I.base.tbls⟩, ⟨m, hn.sameBut hs (Ne.symm (cne x c hc)), fun j y v' e1 e2 e3 => ?_⟩, fun y c' e => ?_, I.free, I.freeC, fun p hp => ?_, tracked ⟨oc, hoc, I.freeC x c hc⟩ hs, by simpa using I.len⟩ ⟨c, hs, .inr hc⟩
    · exact (hs.2 b (Nat.ne_of_lt (Nat.lt_of_lt_of_le (Heap.lt_size e) (I.ok.cab x c hfn hc)))).trans (I.base.keep b o e n hb hx)
    · obtain ⟨sl, e1⟩ := I.base.slot b o e n hb hx
      exact ⟨sl, (hs.2 b (Nat.ne_of_lt (Nat.lt_of_lt_of_le (Heap.lt_size e) (I.ok.cab x c hfn hc)))).trans e1⟩
    · obtain ⟨o', e1⟩ := I.base.there b o e hx
      exact ⟨o', (hs.2 b (Nat.ne_of_lt (Nat.lt_of_lt_of_le (Heap.lt_size e) (I.ok.cab x c hfn hc)))).trans e1⟩
    · by_cases hj : j = i
      · subst hj
        rw [hi] at e1; cases e1
        rw [List.getElem?_set_self hiσ] at e2
        cases e2
        exact ⟨u, r, .inr ⟨.inl hk, c, hc, hc'⟩⟩
      · rw [List.getElem?_set_ne (Ne.symm hj)] at e2
        obtain ⟨u', r', q⟩ := hl j y v' e1 e2 e3
        refine ⟨u', r', ?_⟩
        rcases q with q | ⟨k, c', e, z'⟩
        · exact .inl q
        · refine .inr ⟨k, c', e, z'.sameBut hs ?_⟩
          rintro rfl
          exact hj (nodup_ix hN e1 (I.ok.inj _ _ _ e hc ▸ hi))
    · by_cases hcc : c' = c
      · subst hcc; exact ⟨_, hc'⟩
      · obtain ⟨w2, z2⟩ := I.cell y c' e
        exact ⟨w2, z2.sameBut hs hcc⟩
    · obtain ⟨e, n, ne, nf, d⟩ := I.pin p hp
      refine ⟨(hs.2 p.1 ?_).trans e, n, ne, nf, d⟩
      intro q
      rw [q, hoc] at e
      have q' : oc = p.2 := Option.some.inj e
      exact d w' (by rw [← q']; exact hocd)
theorem store_ok {M : Model} {A : Around} {E : Value → Shared → Prop} {i : Nat} {x : Str} {v : V} {u : Value} {Q : Unit → Shared → Prop} (I : Inv X pins σ H s) (hN : X.N.Nodup) (hi : X.N[i]? = some x) (hx : Loc X.env.scope x) (r : RelV v u)
    (h : ∀ s', Inv X pins (σ.set i (some v)) H s' → Q () s') (hf : X.fn x = true ∨ X.env.scope.names.lookup x = some .local := by first | exact .inl rfl | exact .inr rfl | assumption) : wpAny M A (storeName X.env x u) Q E s :=
  store_ok2 I hN hi hx r (fun s' I' _ => h s' I') hf
theorem Inv.call' {s' : Shared} {ch : List Addr} (I : Inv X pins σ H s) (ho : s'.os = s.os) (u : Un (frs X.stack) ch H H' s.heap s'.heap) (hok : HOk X.prog X.w H' s'.heap) (hg : AllBare s'.gens)
    (hch : ∀ b ∈ ch, (b ∈ X.ex ∨ X.s₀.heap.objs.size ≤ b) ∧ b ≠ X.env.locals ∧ (∀ x c, X.env.cells.lookup x = some c → c ≠ b) ∧ ∀ p ∈ X.pn ++ pins, p.1 ≠ b) : Inv X pins σ H' s' := by
  obtain ⟨h', g', d', t', o'⟩ := s'
  have e : o' = s.os := ho
  subst e
  exact I.call (g' := g') (t' := t') (d' := d') u hok hg hch
end
abbrev XK := Value → Option Addr → Hp → Prop
abbrev St := List (Option V)
abbrev VK := V → Hp → Prop
abbrev TE := St → Hp → VK → Prop
abbrev TT := St → Hp → (Bool → Hp → Prop) → Prop
abbrev TA := St → Hp → (List V → Hp → Prop) → Prop
structure Ends where
  nx : St → Hp → Prop
  rt : VK
  bk : St → Hp → Prop := fun _ _ => False
  ct : St → Hp → Prop := fun _ _ => False
abbrev TS := Ends → St → Hp → Prop
def EP (X : Cx) (pins : List (Addr × Obj)) (σ : St) (Q : VK) (u : Value) (s' : Shared) : Prop := ∃ v H', Inv X pins σ H' s' ∧ RelV v u ∧ Q v H'
def TP (X : Cx) (pins : List (Addr × Obj)) (σ : St) (Q : Bool → Hp → Prop) (b : Bool) (s' : Shared) : Prop := ∃ H', Inv X pins σ H' s' ∧ Q b H'
def AP (X : Cx) (pins : List (Addr × Obj)) (σ : St) (Q : List V → Hp → Prop) (us : List Value) (s' : Shared) : Prop := ∃ vs H', Inv X pins σ H' s' ∧ Vals vs us ∧ Q vs H'
def SP (X : Cx) (pins : List (Addr × Obj)) (D : Ends) (f : Flow) (s' : Shared) : Prop :=
  match f with
  | .next => ∃ σ' H', Inv X pins σ' H' s' ∧ D.nx σ' H'
  | .brk => ∃ σ' H', Inv X pins σ' H' s' ∧ D.bk σ' H'
  | .cont => ∃ σ' H', Inv X pins σ' H' s' ∧ D.ct σ' H'
  | .ret u => ∃ v σ' H', Inv X pins σ' H' s' ∧ RelV v u ∧ D.rt v H'
def PE (X : Cx) (e : Expr) (t : TE) : Prop :=
  ∀ (pins : List (Addr × Obj)) (s : Shared) (σ : St) (H : Hp) (Q : VK), Inv X pins σ H s → t σ H Q → wpAny (model X.prog X.w) X.A (eval e X.env) (EP X pins σ Q) X.xe s
def PT (X : Cx) (e : Expr) (t : TT) : Prop :=
  ∀ (pins : List (Addr × Obj)) (s : Shared) (σ : St) (H : Hp) (Q : Bool → Hp → Prop), Inv X pins σ H s → t σ H Q → wpAny (model X.prog X.w) X.A (isTrue e X.env (eval e X.env)) (TP X pins σ Q) X.xe s
def PW (X : Cx) (e : Expr) (t : TT) : Prop :=
  ∀ (whole : Sem Value) (pins : List (Addr × Obj)) (s : Shared) (σ : St) (H : Hp) (Q : Bool → Hp → Prop), Inv X pins σ H s → t σ H Q → wpAny (model X.prog X.w) X.A (isTrue e X.env whole) (TP X pins σ Q) X.xe s
theorem PW.pt {X : Cx} {e : Expr} {t : TT} (h : PW X e t) : PT X e t := h _
def PA (X : Cx) (es : List Expr) (t : TA) : Prop :=
  ∀ (pos : Pos) (pins : List (Addr × Obj)) (s : Shared) (σ : St) (H : Hp) (Q : List V → Hp → Prop), Inv X pins σ H s → t σ H Q → wpAny (model X.prog X.w) X.A (spliced (backTo pos (starEach es X.env))) (AP X pins σ Q) X.xe s
def PS (X : Cx) (st : Stmt) (t : TS) : Prop :=
  ∀ (pins : List (Addr × Obj)) (s : Shared) (σ : St) (H : Hp) (D : Ends), Inv X pins σ H s → t D σ H → wpAny (model X.prog X.w) X.A (exec st X.env) (SP X pins D) X.xe s
def PSs (X : Cx) (st : List Stmt) (t : TS) : Prop :=
  ∀ (pins : List (Addr × Obj)) (s : Shared) (σ : St) (H : Hp) (D : Ends), Inv X pins σ H s → t D σ H → wpAny (model X.prog X.w) X.A (execs st X.env) (SP X pins D) X.xe s
theorem thn {α : Type} {t : Sem α} {Q Q' : α → Shared → Prop} {M : Model} {A : Around} {E : Value → Shared → Prop} {s : Shared} (h : wpAny M A t Q E s) (hQ : ∀ a s, Q a s → Q' a s) : wpAny M A t Q' E s := wpAny_mono h hQ fun _ _ x => x
end L2
namespace L2
open PySem PySem.Spec PyProof.Rows
section
variable {X : Cx}
def tVar (i : Nat) : TE := fun σ H Q => ∃ v, σ[i]? = some (some v) ∧ Q v H
def tC (v : V) : TE := fun _ H Q => Q v H
theorem pe_var {i : Nat} {x : Str} {pos : Pos} (hN : X.N[i]? = some x) (hv : Vis X.env.scope x) (hd : (x == ("__debug__" : Str)) = false := by decide) (hcd : (x == ("__classdict__" : Str)) = false := by decide) : PE X (.Name x pos) (tVar i) := by
  intro pins s σ H Q I h
  obtain ⟨v, e, h⟩ := h
  obtain ⟨m, hn, hl⟩ := I.loc
  obtain ⟨u, r, l⟩ := hl i x v hN e hv
  have fin : EP X pins σ Q u s := ⟨v, H, I, r, h⟩
  rcases l with ⟨hk, hm⟩ | ⟨hk, c, hc, hcell⟩
  · exact wpAny_Name (wpAny_loadName_local I.ok.kind hk hn hm fin) hd
  · rcases hk with hk | hk
    · exact wpAny_Name (wpAny_loadName_cell I.ok.kind hk hc hcell fin) hd
    · exact wpAny_Name (wpAny_loadName_free I.ok.kind hk hc hcell fin hcd) hd
theorem pe_int {i j pos} : PE X (.Constant (.int i) j pos) (tC (.int i)) := fun _ _ _ H _ I h => wpAny_Constant_int ⟨.int i, H, I.tok _, ⟨_, rfl⟩, h⟩
theorem pe_bl {b j pos} : PE X (.Constant (.bool b) j pos) (tC (.bl b)) := fun _ _ _ H _ I h => Constant_bool ⟨.bl b, H, I, rfl, h⟩
theorem pe_non {j pos} : PE X (.Constant .none j pos) (tC .non) := fun _ _ _ H _ I h => Constant_none ⟨.non, H, I, rfl, h⟩
theorem pe_str {x j pos} : PE X (.Constant (.str x) j pos) (tC (.str x)) := fun _ _ _ H _ I h => Calls.Constant_str ⟨.str x, H, I.tok _, ⟨_, rfl⟩, h⟩
def Gl (X : Cx) (x : Str) : Prop := X.env.kindOf x = some .globalImplicit
theorem ld_glob {E : Value → Shared → Prop} {pins : List (Addr × Obj)} {s : Shared} {σ : St} {H : Hp} {x : Str} {u : Value} {pos : Pos} {Q : Value → Shared → Prop} (I : Inv X pins σ H s) (hg : Gl X x) (hm : X.mg x = some u) (h : Q u s)
    (hd : (x == ("__debug__" : Str)) = false := by decide) : wpAny (model X.prog X.w) X.A (eval (.Name x pos) X.env) Q E s :=
  Calls.Name_function_global I.ok.kind hg (Calls.loadGlobal_global (by rw [I.ok.glob]; exact I.mod.glob.keeps I.bk) hm h) hd
theorem ld_blt {E : Value → Shared → Prop} {pins : List (Addr × Obj)} {s : Shared} {σ : St} {H : Hp} {x : Str} {u : Value} {pos : Pos} {Q : Value → Shared → Prop} (I : Inv X pins σ H s) (hg : Gl X x) (hm : X.mg x = none) (hv : bootBuiltins x = some u) (h : Q u s)
    (hn : x ≠ "__name__" := by decide) (hd : (x == ("__debug__" : Str)) = false := by decide) : wpAny (model X.prog X.w) X.A (eval (.Name x pos) X.env) Q E s := by
  obtain ⟨mb, h1, h2⟩ := I.mod.blt
  exact Calls.Name_function_global I.ok.kind hg (Calls.loadGlobal_builtin (by rw [I.ok.glob]; exact I.mod.glob.keeps I.bk) hm (by rw [I.ok.blt]; exact h1.keeps I.bk) ((h2 x hn).trans hv) h) hd
theorem pe_glob {x : Str} {v : V} {u : Value} {pos : Pos} (hg : Gl X x) (hm : X.mg x = some u) (r : RelV v u) (hd : (x == ("__debug__" : Str)) = false := by decide) : PE X (.Name x pos) (tC v) :=
  fun _ _ _ H _ I h => ld_glob I hg hm ⟨v, H, I, r, h⟩ hd
theorem pe_bltn {x : Str} {v : V} {u : Value} {pos : Pos} (hg : Gl X x) (hm : X.mg x = none) (hv : bootBuiltins x = some u) (r : RelV v u) (hn : x ≠ "__name__" := by decide) (hd : (x == ("__debug__" : Str)) = false := by decide) : PE X (.Name x pos) (tC v) :=
  fun _ _ _ H _ I h => ld_blt I hg hm hv ⟨v, H, I, r, h⟩ hn hd
def t2I (ta tb : TE) (k : Int → Int → Hp → Prop) : St → Hp → Prop := fun σ H => ta σ H fun x H1 => tb σ H1 fun y H2 => ∃ i j, x = .int i ∧ y = .int j ∧ k i j H2
def tAdd (ta tb : TE) : TE := fun σ H Q => t2I ta tb (fun i j H2 => Q (.int (i + j)) H2) σ H
def tSub (ta tb : TE) : TE := fun σ H Q => t2I ta tb (fun i j H2 => Q (.int (i - j)) H2) σ H
def tMul (ta tb : TE) : TE := fun σ H Q => t2I ta tb (fun i j H2 => (-(2 ^ 64) < i ∧ i < 2 ^ 64) ∧ Q (.int (i * j)) H2) σ H
variable {a b : Expr} {ta tb : TE} {pos : Pos}
def PC (X : Cx) (op : CmpOp) (a b : Expr) (t : TE) : Prop :=
  ∀ (pins : List (Addr × Obj)) (s : Shared) (σ : St) (H : Hp) (Q : VK), Inv X pins σ H s → t σ H Q →
    wpAny (model X.prog X.w) X.A (eval a X.env) (fun v s₁ => wpAny (model X.prog X.w) X.A (eval b X.env) (fun u s₂ => wpAny (model X.prog X.w) X.A (compareOp op v u) (EP X pins σ Q) X.xe s₂) X.xe s₁) X.xe s
def tCmp (p : Int → Int → Bool) (ta tb : TE) : TE := fun σ H Q => t2I ta tb (fun i j H2 => Q (.bl (p i j)) H2) σ H
abbrev tLt : TE → TE → TE := tCmp fun i j => decide (i < j)
abbrev tLe : TE → TE → TE := tCmp fun i j => decide (i ≤ j)
abbrev tGt : TE → TE → TE := tCmp fun i j => decide (j < i)
abbrev tGe : TE → TE → TE := tCmp fun i j => decide (j ≤ i)
abbrev tEqI : TE → TE → TE := tCmp fun i j => decide (i = j)
abbrev tNeI : TE → TE → TE := tCmp fun i j => !decide (i = j)
def tIsN (ta : TE) : TE := fun σ H Q => ta σ H fun x H1 => Q (.bl (decide (x = .non))) H1
def tNotN (ta : TE) : TE := fun σ H Q => ta σ H fun x H1 => Q (.bl (!decide (x = .non))) H1
def tB (t : TE) : TT := fun σ H Q => t σ H fun x H1 => ∃ c, x = .bl c ∧ Q c H1
theorem pt_val {e : Expr} {t : TE} (h : PE X e t) (he : ∀ whole, isTrue e X.env whole = (do let v ← whole; standAt e.pos; holding [v] (truthy v)) := by intro _; rfl) : PT X e (tB t) := by
  intro pins s σ H Q I hw
  refine isTrue_plain (thn (h pins s σ H _ I hw) fun v s1 ⟨x, H1, I1, r1, q1⟩ => ?_) (he _)
  obtain ⟨d, rfl, q⟩ := q1
  cases r1
  exact wpAny_truthy_bool ⟨H1, I1, q⟩
variable {tA tB' : TT} {rest : List Expr}
def tAnd (t u : TT) : TT := fun σ H Q => t σ H fun c H1 => if c = true then u σ H1 Q else Q false H1
def tOr (t u : TT) : TT := fun σ H Q => t σ H fun c H1 => if c = true then Q true H1 else u σ H1 Q
def tNot (t : TT) : TT := fun σ H Q => t σ H fun c H1 => Q (!c) H1
theorem pw_and1 (ha : PT X a tA) : PW X (.BoolOp .And [a] pos) tA := by
  intro wh pins s σ H Q I h
  refine isTrue_and (thn (ha pins s σ H Q I h) fun c s1 e => ?_)
  cases c with
  | true => exact isTrue_and_nil e
  | false => exact e
theorem pw_or1 (ha : PT X a tA) : PW X (.BoolOp .Or [a] pos) tA := by
  intro wh pins s σ H Q I h
  refine isTrue_or (thn (ha pins s σ H Q I h) fun c s1 e => ?_)
  cases c with
  | false => exact isTrue_or_nil e
  | true => exact e
theorem pw_and (ha : PT X a tA) (hb : PW X (.BoolOp .And (b :: rest) pos) tB') : PW X (.BoolOp .And (a :: b :: rest) pos) (tAnd tA tB') := by
  intro wh pins s σ H Q I h
  refine isTrue_and (thn (ha pins s σ H _ I h) fun c s1 ⟨H1, I1, q1⟩ => ?_)
  cases c with
  | true => exact hb wh pins s1 σ H1 Q I1 q1
  | false => exact ⟨H1, I1, q1⟩
theorem pw_or (ha : PT X a tA) (hb : PW X (.BoolOp .Or (b :: rest) pos) tB') : PW X (.BoolOp .Or (a :: b :: rest) pos) (tOr tA tB') := by
  intro wh pins s σ H Q I h
  refine isTrue_or (thn (ha pins s σ H _ I h) fun c s1 ⟨H1, I1, q1⟩ => ?_)
  cases c with
  | true => exact ⟨H1, I1, q1⟩
  | false => exact hb wh pins s1 σ H1 Q I1 q1
theorem pt_not (ha : PT X a tA) : PT X (.UnaryOp .Not a pos) (tNot tA) := by
  intro pins s σ H Q I h
  exact isTrue_not (ha pins s σ H (fun c H1 => Q (!c) H1) I h)
def tAndV (ta tb : TE) : TE := fun σ H Q => ta σ H fun x H1 => ∃ c, x = .bl c ∧ if c = true then tb σ H1 Q else Q (.bl false) H1
def tOrV (ta tb : TE) : TE := fun σ H Q => ta σ H fun x H1 => ∃ c, x = .bl c ∧ if c = true then Q (.bl true) H1 else tb σ H1 Q
def tNotV (ta : TE) : TE := fun σ H Q => ta σ H fun x H1 => ∃ c, x = .bl c ∧ Q (.bl (!c)) H1
theorem pe_one {op} {t : TE} (h : PE X a t) : PE X (.BoolOp op [a] pos) t := fun pins s σ H Q I hw => BoolOp_one (h pins s σ H Q I hw)
theorem pe_and (ha : PE X a ta) (hb : PE X (.BoolOp .And (b :: rest) pos) tb) : PE X (.BoolOp .And (a :: b :: rest) pos) (tAndV ta tb) := by
  intro pins s σ H Q I h
  refine BoolOp_and (thn (ha pins s σ H _ I h) fun v s1 ⟨x, H1, I1, r1, q1⟩ => ?_)
  obtain ⟨c, rfl, q1⟩ := q1
  cases r1
  refine wpAny_truthy_bool ?_
  cases c with
  | true => exact hb pins s1 σ H1 Q I1 q1
  | false => exact ⟨.bl false, H1, I1, rfl, q1⟩
theorem pe_or (ha : PE X a ta) (hb : PE X (.BoolOp .Or (b :: rest) pos) tb) : PE X (.BoolOp .Or (a :: b :: rest) pos) (tOrV ta tb) := by
  intro pins s σ H Q I h
  refine BoolOp_or (thn (ha pins s σ H _ I h) fun v s1 ⟨x, H1, I1, r1, q1⟩ => ?_)
  obtain ⟨c, rfl, q1⟩ := q1
  cases r1
  refine wpAny_truthy_bool ?_
  cases c with
  | false => exact hb pins s1 σ H1 Q I1 q1
  | true => exact ⟨.bl true, H1, I1, rfl, q1⟩
def tIf (t : TT) (ta tb : TE) : TE := fun σ H Q => t σ H fun c H1 => if c = true then ta σ H1 Q else tb σ H1 Q
end
end L2
namespace L2
open PySem PySem.Spec PyProof.Rows
def SqL (K : PySem.W.Frag) (H : Hp) (a : Addr) (xs : List V) : Prop :=
  Rd H a (.lst xs) ∨
    ∃ (o : Obj) (its : Array Value) (n : Nat), K.lookup a = some o ∧ o.cls = .type "list" ∧ o.dict = none ∧ o.data = .seq its n ∧ its.size ≤ sizeLine ∧ Vals xs its.toList
def SqT (K : PySem.W.Frag) (H : Hp) (a : Addr) (xs : List V) : Prop :=
  Rd H a (.tup xs) ∨
    ∃ (o : Obj) (its : Array Value) (n : Nat), K.lookup a = some o ∧ o.cls = .type "tuple" ∧ o.data = .seq its n ∧ its.size ≤ sizeLine ∧ Vals xs its.toList
def absV : Value → Option V
  | .none => some .non
  | .bool b => some (.bl b)
  | .int i _ => some (.int i)
  | .str x _ => some (.str x)
  | .bytes b _ => some (.byt b)
  | .float b _ => some (.flt b)
  | .ref a => some (.ref a)
  | .type n => some (.ty n)
  | _ => none
theorem RelV.abs {x : V} {u : Value} (r : RelV x u) : absV u = some x := by
  cases x with
  | non => cases r; rfl
  | bl _ => cases r; rfl
  | int _ => obtain ⟨t, rfl⟩ := r; rfl
  | str _ => obtain ⟨t, rfl⟩ := r; rfl
  | byt _ => obtain ⟨t, rfl⟩ := r; rfl
  | flt _ => obtain ⟨t, rfl⟩ := r; rfl
  | ref _ => cases r; rfl
  | ty _ => cases r; rfl
theorem RelV.inj {x y : V} {u : Value} (r : RelV x u) (q : RelV y u) : x = y := Option.some.inj (r.abs.symm.trans q.abs)
theorem Vals.inj : ∀ {xs ys : List V} {us : List Value}, Vals xs us → Vals ys us → xs = ys
  | _, _, _, .nil, .nil => rfl
  | _, _, _, .cons r t, .cons r' t' => by rw [r.inj r', Vals.inj t t']
section
variable {X : Cx} {pins : List (Addr × Obj)} {σ : St} {H : Hp} {s : Shared} {a : Addr} {xs ys : List V}
theorem SqL.of {K : PySem.W.Frag} (h : H a = some (.lst xs)) : SqL K H a xs := .inl (.inl h)
theorem SqT.of {K : PySem.W.Frag} (h : H a = some (.tup xs)) : SqT K H a xs := .inl (.inl h)
theorem Inv.list (I : Inv X pins σ H s) (h : SqL X.K H a xs) : ∃ its : List Value, Vals xs its ∧ PlainL s.heap a its.toArray ∧ xs.length ≤ sizeLine := by
  rcases h with h | ⟨o, its, n, hk, hc, hd, hs, hz, r⟩
  · obtain ⟨z, its, n, r, e⟩ := h.ok I.hok
    exact ⟨its, r, ⟨_, n, e, rfl, rfl, rfl⟩, z⟩
  · refine ⟨its.toList, r, ⟨o, n, I.kIn a o hk, hc, hd, by simpa using hs⟩, ?_⟩
    have e := r.length
    simp only [Array.length_toList] at e
    omega
theorem Inv.tuple (I : Inv X pins σ H s) (h : SqT X.K H a xs) : ∃ its : List Value, Vals xs its ∧ IsTup s.heap a its.toArray ∧ xs.length ≤ sizeLine := by
  rcases h with h | ⟨o, its, n, hk, hc, hs, hz, r⟩
  · obtain ⟨z, its, r, p⟩ := h.ok I.hok
    exact ⟨its, r, p, z⟩
  · refine ⟨its.toList, r, ⟨o, I.kIn a o hk, hc, n, by simpa using hs⟩, ?_⟩
    have e := r.length
    simp only [Array.length_toList] at e
    omega
theorem Inv.list_inj (I : Inv X pins σ H s) (h : SqL X.K H a xs) (h' : SqL X.K H a ys) : xs = ys := by
  obtain ⟨its, r, ⟨o, n, e, _, _, d⟩, _⟩ := I.list h
  obtain ⟨its', r', ⟨o', n', e', _, _, d'⟩, _⟩ := I.list h'
  rw [e] at e'; cases e'
  rw [d] at d'
  injection d' with d1 _
  have : its = its' := by simpa using congrArg Array.toList d1
  subst this
  exact r.inj r'
end
abbrev Cx.wish (X : Cx) (E : Value → Shared → Prop) : Cx := { X with xe := E }
abbrev Cx.nox (X : Cx) : Cx := X.wish fun _ _ => False
theorem Cx.Ok.wish {X : Cx} (ok : X.Ok) (E : Value → Shared → Prop) : (X.wish E).Ok :=
  ⟨ok.mod, ok.kind, ok.glob, ok.blt, ok.above, ok.inj, ok.has, ok.cab, ok.hd, ok.frames, ok.stk, ok.exf, ok.bs, ok.bsz, ok.noex, ok.exfs, ok.funs, ok.frf⟩
theorem Cx.Ok.unwish {X : Cx} {E : Value → Shared → Prop} (ok : (X.wish E).Ok) : X.Ok :=
  ⟨ok.mod, ok.kind, ok.glob, ok.blt, ok.above, ok.inj, ok.has, ok.cab, ok.hd, ok.frames, ok.stk, ok.exf, ok.bs, ok.bsz, ok.noex, ok.exfs, ok.funs, ok.frf⟩
section
variable {X : Cx} {pins : List (Addr × Obj)} {σ : St} {H : Hp} {s : Shared} {E : Value → Shared → Prop}
theorem Inv.wish (I : Inv X pins σ H s) (E : Value → Shared → Prop) : Inv (X.wish E) pins σ H s := ⟨I.ok.wish E, I.os, I.bare, I.base, I.loc, I.cell, I.free, I.freeC, I.pin, I.hok, I.len⟩
theorem Inv.unwish (I : Inv (X.wish E) pins σ H s) : Inv X pins σ H s := ⟨I.ok.unwish, I.os, I.bare, I.base, I.loc, I.cell, I.free, I.freeC, I.pin, I.hok, I.len⟩
theorem SP.unwish {D : Ends} {f : Flow} {s' : Shared} (h : SP (X.wish E) pins D f s') : SP X pins D f s' := by
  cases f with
  | next => obtain ⟨σ', H', I, q⟩ := h; exact ⟨σ', H', I.unwish, q⟩
  | brk => obtain ⟨σ', H', I, q⟩ := h; exact ⟨σ', H', I.unwish, q⟩
  | cont => obtain ⟨σ', H', I, q⟩ := h; exact ⟨σ', H', I.unwish, q⟩
  | ret u => obtain ⟨v, σ', H', I, r, q⟩ := h; exact ⟨v, σ', H', I.unwish, r, q⟩
theorem PE.nox {e : Expr} {t : TE} (h : PE X.nox e t) : PE X e t := fun pins s σ H Q I hw =>
  wpAny_mono (h pins s σ H Q (I.wish _) hw) (fun _ _ ⟨v, H', I', r, q⟩ => ⟨v, H', I'.unwish, r, q⟩) fun _ _ z => False.elim z
theorem PT.nox {e : Expr} {t : TT} (h : PT X.nox e t) : PT X e t := fun pins s σ H Q I hw =>
  wpAny_mono (h pins s σ H Q (I.wish _) hw) (fun _ _ ⟨H', I', q⟩ => ⟨H', I'.unwish, q⟩) fun _ _ z => False.elim z
theorem PSs.nox {st : List Stmt} {t : TS} (h : PSs X.nox st t) : PSs X st t := fun pins s σ H D I hw =>
  wpAny_mono (h pins s σ H D (I.wish _) hw) (fun _ _ q => q.unwish) fun _ _ z => False.elim z
end
section
variable {X : Cx} {st : Stmt} {rest : List Stmt} {t u : TS} {e : Expr} {te : TE} {pos : Pos}
def tNext : TS := fun D σ H => D.nx σ H
def tSeq (t u : TS) : TS := fun D σ H => t { D with nx := u D } σ H
theorem pss_nil : PSs X [] tNext := fun _ _ σ H _ I h => wpAny_execs_nil ⟨σ, H, I, h⟩
theorem pss_cons (h1 : PS X st t) (h2 : PSs X rest u) : PSs X (st :: rest) (tSeq t u) := by
  intro pins s σ H D I h
  refine wpAny_execs_cons (thn (h1 pins s σ H { D with nx := u D } I h) fun f s1 q => ?_)
  cases f with
  | next =>
    obtain ⟨σ', H', I', q⟩ := q
    exact h2 pins s1 σ' H' D I' q
  | ret v => exact q
  | brk => exact q
  | cont => exact q
theorem pss_one (h1 : PS X st t) : PSs X [st] t := by
  intro pins s σ H D I h
  refine wpAny_execs_cons (thn (h1 pins s σ H D I h) fun f s1 q => ?_)
  cases f with
  | next => exact wpAny_execs_nil q
  | ret v => exact q
  | brk => exact q
  | cont => exact q
def tBreak : TS := fun D σ H => D.bk σ H
def tCont : TS := fun D σ H => D.ct σ H
theorem Inv.quiet {pins : List (Addr × Obj)} {σ : St} {H : Hp} {s : Shared} (I : Inv X pins σ H s) : interactive X.env = false := by simp [interactive, I.ok.kind]
def tDrop (te : TE) : TS := fun D σ H => te σ H fun _ H1 => D.nx σ H1
theorem ps_expr (he : PE X e te) (hs : swapsWith e none pos.line X.env = pure false := by rfl) : PS X (.Expr e pos) (tDrop te) := by
  intro pins s σ H D I h
  exact wpAny_Expr_any (thn (he pins s σ H _ I h) fun v s1 ⟨x, H1, I1, r1, q1⟩ => ⟨σ, H1, I1, q1⟩) I.quiet hs
def tRet (te : TE) : TS := fun D σ H => te σ H D.rt
theorem ps_ret (he : PE X e te) : PS X (.Return (some e) pos) (tRet te) := by
  intro pins s σ H D I h
  exact wpAny_Return_some (thn (he pins s σ H _ I h) fun v s1 ⟨x, H1, I1, r1, q1⟩ => ⟨x, σ, H1, I1, r1, q1⟩)
def tRetN : TS := fun D _ H => D.rt .non H
def tIfS (c : TT) (t u : TS) : TS := fun D σ H => c σ H fun b H1 => if b = true then t D σ H1 else u D σ H1
theorem ps_if {c : Expr} {a b : List Stmt} {tc : TT} (hc : PT X c tc) (ha : PSs X a t) (hb : PSs X b u) : PS X (.If c a b pos) (tIfS tc t u) := by
  intro pins s σ H D I h
  refine wpAny_If (thn (hc pins s σ H _ I h) fun d s1 ⟨H1, I1, q1⟩ => ?_)
  cases d with
  | true => exact ha pins s1 σ H1 D I1 q1
  | false => exact hb pins s1 σ H1 D I1 q1
def tNever : TS := fun _ _ _ => False
end
abbrev TG := V → St → Hp → (St → Hp → Prop) → Prop
abbrev TGs := List V → St → Hp → (St → Hp → Prop) → Prop
def PG (X : Cx) (target : Expr) (t : TG) : Prop :=
  ∀ (pins : List (Addr × Obj)) (s : Shared) (σ : St) (H : Hp) (v : V) (u : Value) (Q : St → Hp → Prop), Inv X pins σ H s → RelV v u → t v σ H Q →
    wpAny (model X.prog X.w) X.A (assign target X.env u) (fun _ s' => ∃ σ' H', Inv X pins σ' H' s' ∧ Q σ' H') X.xe s
def PGs (X : Cx) (ts : List Expr) (t : TGs) : Prop :=
  ∀ (pins : List (Addr × Obj)) (s : Shared) (σ : St) (H : Hp) (vs : List V) (us : List Value) (Q : St → Hp → Prop), Inv X pins σ H s → Vals vs us → t vs σ H Q →
    wpAny (model X.prog X.w) X.A (assignInOrder ((assignEach ts X.env).map (·.2)) us) (fun _ s' => ∃ σ' H', Inv X pins σ' H' s' ∧ Q σ' H') X.xe s
abbrev TSet := V → V → V → Hp → (Hp → Prop) → Prop
def PSet (X : Cx) (t : TSet) : Prop :=
  ∀ (pins : List (Addr × Obj)) (s : Shared) (σ : St) (H : Hp) (o i v : V) (ov iv u : Value) (Q : Hp → Prop), Inv X pins σ H s → RelV o ov → RelV i iv → RelV v u → t o i v H Q →
    wpAny (model X.prog X.w) X.A (setItem ov iv u) (fun _ s' => ∃ H', Inv X pins σ H' s' ∧ Q H') X.xe s
abbrev TIp := V → V → Hp → VK → Prop
def PIp (X : Cx) (op : Operator) (t : TIp) : Prop :=
  ∀ (pins : List (Addr × Obj)) (s : Shared) (σ : St) (H : Hp) (x y : V) (v u : Value) (Q : VK), Inv X pins σ H s → RelV x v → RelV y u → t x y H Q →
    wpAny (model X.prog X.w) X.A (inplaceOp op v u) (EP X pins σ Q) X.xe s
section
variable {X : Cx} {pos : Pos}
def gName (i : Nat) : TG := fun v σ H Q => Q (σ.set i (some v)) H
theorem pg_name {i : Nat} {x : Str} (hN : X.N.Nodup) (hi : X.N[i]? = some x) (hx : Loc X.env.scope x) (hf : X.fn x = true ∨ X.env.scope.names.lookup x = some .local := by first | exact .inl rfl | exact .inr rfl | assumption) : PG X (.Name x pos) (gName i) := by
  intro pins s σ H v u Q I r h
  exact wpAny_assign_Name (store_ok I hN hi hx r (fun s' I' => ⟨_, H, I', h⟩) hf)
def gNil : TGs := fun vs σ H Q => vs = [] ∧ Q σ H
def gCons (t : TG) (u : TGs) : TGs := fun vs σ H Q => ∃ v r, vs = v :: r ∧ t v σ H fun σ' H' => u r σ' H' Q
theorem pgs_nil : PGs X [] gNil := by
  intro pins s σ H vs us Q I r h
  obtain ⟨e, h⟩ := h
  subst e
  cases r
  exact assignInOrder_nil ⟨σ, H, I, h⟩
theorem pgs_cons {e : Expr} {es : List Expr} {t : TG} {u : TGs} (h1 : PG X e t) (h2 : PGs X es u)
    (hs : (assignEach (e :: es) X.env).map (·.2) = assign e X.env :: (assignEach es X.env).map (·.2) := by rfl) : PGs X (e :: es) (gCons t u) := by
  intro pins s σ H vs us Q I r h
  obtain ⟨v, vr, e1, h⟩ := h
  subst e1
  cases r with
  | cons r rr =>
    rw [hs]
    refine assignInOrder_cons (thn (h1 pins s σ H _ _ _ I r h) fun _ s1 ⟨σ1, H1, I1, q1⟩ => ?_)
    exact h2 pins s1 σ1 H1 _ _ Q I1 rr q1
def gTup (K : PySem.W.Frag) (n : Nat) (t : TGs) : TG := fun v σ H Q => ∃ a xs, v = .ref a ∧ SqT K H a xs ∧ xs.length = n ∧ t xs σ H Q
theorem pg_tup {es : List Expr} {k : Nat} {t : TGs} {n : Nat} (hc : X.calm = true) (h : PGs X es t)
    (hn : (assignEach es X.env).length = n := by rfl) (hst : (assignEach es X.env).findIdx? (·.1) = none := by rfl) : PG X (.Tuple es k pos) (gTup X.K n t) := by
  intro pins s σ H v u Q I r hw
  obtain ⟨a, xs, e1, hq, hl, hw⟩ := hw
  subst e1
  cases r
  obtain ⟨its, rv, ht, hz⟩ := I.tuple hq
  refine assign_Tuple_tuple (I.ok.hd hc) ht (by simp [hn, ← hl, rv.length]) hst fun h' hx => ?_
  have I1 : Inv X pins σ H { s with heap := h' } := I.kept (t' := s.toks) fun b o e => hx b o (Nat.ne_of_lt (Heap.lt_size e)) e
  exact h pins _ σ H xs _ Q I1 (by simpa using rv) hw
def gSub (to ti : TE) (t : TSet) : TG := fun v σ H Q => to σ H fun o H1 => ti σ H1 fun i H2 => t o i v H2 fun H3 => Q σ H3
theorem pg_sub {o i : Expr} {to ti : TE} {t : TSet} (ho : PE X o to) (hi : PE X i ti) (hs : PSet X t)
    (ha : ∀ v, assign (.Subscript o i pos) X.env v = (do
      let ov ← holding [v] (eval o X.env)
      let iv ← holding [v, ov] (eval i X.env)
      standAt pos
      holding [v, ov, iv] (setItem ov iv v)
      release [v, ov, iv] []) := by intro _; rfl) : PG X (.Subscript o i pos) (gSub to ti t) := by
  intro pins s σ H v u Q I r h
  rw [ha]
  refine wpAny_bind (wpAny_holding (thn (ho pins s σ H _ I h) fun ov s1 ⟨x, H1, I1, r1, q1⟩ => ?_))
  refine wpAny_bind (wpAny_holding (thn (hi pins s1 σ H1 _ I1 q1) fun iv s2 ⟨y, H2, I2, r2, q2⟩ => ?_))
  refine wpAny_bind (wpAny_standAt (wpAny_bind (wpAny_holding (thn (hs pins s2 σ H2 x y v ov iv u _ I2 r1 r2 r q2) fun _ s3 ⟨H3, I3, q3⟩ => ?_))))
  exact wpAny_release ⟨σ, H3, I3, q3⟩
def tAsg (te : TE) (g : TG) : TS := fun D σ H => te σ H fun x H1 => g x σ H1 D.nx
theorem ps_asg {tg e : Expr} {te : TE} {g : TG} (he : PE X e te) (hg : PG X tg g) (hs : swapsWithSole [tg] e pos.line X.env = pure false := by rfl) (hw : swappedStores [tg] e X.env = pure none := by rfl)
    (h1 : (assignEach [tg] X.env).map (·.2) = [assign tg X.env] := by rfl) : PS X (.Assign [tg] e pos) (tAsg te g) := by
  intro pins s σ H D I h
  refine wpAny_Assign_stores (thn (he pins s σ H _ I h) fun v s1 ⟨x, H1, I1, r1, q1⟩ => ?_) hs hw
  rw [h1]
  exact thn (hg pins s1 σ H1 x v _ I1 r1 q1) fun _ s2 q => q
theorem ps_set {i : Nat} {x : Str} {e : Expr} {te : TE} {pos' : Pos} (hN : X.N.Nodup) (hi : X.N[i]? = some x) (hx : Loc X.env.scope x) (he : PE X e te) (hs : swapsWith e (some (.Name x pos')) pos.line X.env = pure false := by rfl) (hf : X.fn x = true ∨ X.env.scope.names.lookup x = some .local := by first | exact .inl rfl | exact .inr rfl | assumption) :
    PS X (.Assign [.Name x pos'] e pos) (tAsg te (gName i)) := by
  intro pins s σ H D I h
  refine wpAny_Assign_Name (thn (he pins s σ H _ I h) fun v s1 ⟨y, H1, I1, r1, q1⟩ => ?_) hs
  exact store_ok I1 hN hi hx r1 (fun s2 I2 => ⟨_, H1, I2, q1⟩) hf
def tPar (i j : Nat) (ta : TA) : TS := fun D σ H => ta σ H fun vs H1 => ∃ v w, vs = [v, w] ∧ D.nx ((σ.set i (some v)).set j (some w)) H1
def tAug (i : Nat) (te : TE) (ti : TIp) : TS := fun D σ H => ∃ x, σ[i]? = some (some x) ∧ te σ H fun y H1 => ti x y H1 fun z H2 => D.nx (σ.set i (some z)) H2
def tAugS (to ti te : TE) (tget : V → V → Hp → VK → Prop) (tip : TIp) (tset : TSet) : TS := fun D σ H => to σ H fun o H1 => ti σ H1 fun i H2 => tget o i H2 fun x H3 => te σ H3 fun y H4 => tip x y H4 fun z H5 => tset o i z H5 fun H6 => D.nx σ H6
def PGet (X : Cx) (t : V → V → Hp → VK → Prop) : Prop :=
  ∀ (pins : List (Addr × Obj)) (s : Shared) (σ : St) (H : Hp) (o i : V) (ov iv : Value) (Q : VK), Inv X pins σ H s → RelV o ov → RelV i iv → t o i H Q →
    wpAny (model X.prog X.w) X.A (getItem ov iv) (EP X pins σ Q) X.xe s
def ipI (f : Int → Int → Int) : TIp := fun x y H Q => ∃ i j, x = .int i ∧ y = .int j ∧ Q (.int (f i j)) H
end
section
variable {X : Cx} {pos : Pos}
def tWhile (c : TT) (tb : TS) : TS := fun D σ H => ∃ W : Nat → St → Hp → Prop, (∃ m, W m σ H) ∧ ∀ m σ H, W m σ H →
  c σ H fun b H1 => if b = true then ∃ N : St → Hp → Prop, (∀ σ' H', N σ' H' → ∃ m', m' < m ∧ W m' σ' H') ∧ tb { D with nx := N, ct := N, bk := D.nx } σ H1 else D.nx σ H1
theorem ps_while {c : Expr} {body : List Stmt} {tc : TT} {tb : TS} (hp : PassesOwn (model X.prog X.w) X.A X.env X.xe) (hc : PT X c tc) (hb : PSs X body tb) : PS X (.While c body [] pos) (tWhile tc tb) := by
  intro pins s σ H D I h
  obtain ⟨W, ⟨m0, w0⟩, turn⟩ := h
  refine wpAny_While (codeAny_whileLoop (fun n s' => ∃ σ' H', Inv X pins σ' H' s' ∧ W n σ' H') ?_ m0 ⟨σ, H, I, w0⟩)
  rintro n s1 ⟨σ1, H1, I1, w1⟩
  refine wpAny_passesOwn hp (thn (hc pins s1 σ1 H1 _ I1 (turn n σ1 H1 w1)) fun b s2 ⟨H2, I2, q2⟩ => ?_)
  cases b with
  | true =>
    obtain ⟨N, hN, q2⟩ := q2
    rw [if_pos rfl]
    refine wpAny_passesOwn hp (thn (hb pins s2 σ1 H2 _ I2 q2) fun f s3 q3 => ?_)
    cases f with
    | next =>
      obtain ⟨σ3, H3, I3, n3⟩ := q3
      obtain ⟨m', hm, w3⟩ := hN σ3 H3 n3
      exact ⟨m', hm, σ3, H3, I3, w3⟩
    | cont =>
      obtain ⟨σ3, H3, I3, n3⟩ := q3
      obtain ⟨m', hm, w3⟩ := hN σ3 H3 n3
      exact ⟨m', hm, σ3, H3, I3, w3⟩
    | brk => exact q3
    | ret v => exact q3
  | false =>
    rw [if_neg Bool.false_ne_true]
    exact wpAny_execs_nil ⟨σ1, H2, I2, q2⟩
end
structure It where
  go : Nat → Hp → Prop
  yld : Nat → Hp → V → Hp → Prop
  stop : Nat → Hp → Prop
def FpOk (X : Cx) (pins : List (Addr × Obj)) (H : Hp) (b : Addr) : Prop :=
  H b = none ∧ b ≠ X.env.locals ∧ b ∉ X.fs ∧ (b ∈ X.ex ∨ X.s₀.heap.objs.size ≤ b) ∧ (∀ x c, X.env.cells.lookup x = some c → c ≠ b) ∧ ∀ p ∈ X.pn ++ pins, p.1 ≠ b
theorem Inv.fpOk {X : Cx} {pins : List (Addr × Obj)} {σ : St} {H H' : Hp} {s : Shared} {b : Addr} (I : Inv X pins σ H s) (hb : s.heap.objs.size ≤ b) (hn : H' b = none) : FpOk X pins H' b := by
  refine ⟨hn, Nat.ne_of_gt (Nat.lt_of_lt_of_le I.lt hb), I.nofs hb, .inr (Nat.le_trans I.sz hb), fun x c e z => ?_, fun p hp z => ?_⟩
  · obtain ⟨v, q⟩ := I.cell x c e
    exact absurd (Nat.lt_of_lt_of_le q.lt (by rw [z]; exact hb)) (Nat.lt_irrefl _)
  · exact absurd (Nat.lt_of_lt_of_le (Heap.lt_size (I.pin p hp).1) (by rw [z]; exact hb)) (Nat.lt_irrefl _)
structure Turn (P : Program) (w : World) (K : PySem.W.Frag) (tg : Expr) (J : It) (fp : List Addr) (it : Addr) (tn : Nat → Heap → Prop) : Prop where
  mem : it ∈ fp
  obj : ∀ i h, tn i h → ∀ b ∈ fp, ∃ o, h.get? b = some o ∧ ∀ v, o.data ≠ .cell v
  keep : ∀ i h h', tn i h → (∀ b ∈ fp, ∀ o, h.get? b = some o → h'.get? b = some o) → tn i h'
  item : ∀ (X : Cx), X.prog = P → X.w = w → X.K = K → X.calm = true → ∀ (i : Nat) (pins : List (Addr × Obj)) (s : Shared) (σ : St) (H : Hp) (E : Value → Shared → Prop), Inv X pins σ H s → (∀ b ∈ fp, FpOk X pins H b) → tn i s.heap → J.go i H →
    wpAny (model P w) X.A (pyNext (.ref it)) (fun r s1 => ∃ u, r = some u ∧
      wpAny (model P w) X.A (letOwnedTupleGo tg (.ref it) u) (fun _ s2 => ∃ x H', Inv X pins σ H' s2 ∧ RelV x u ∧ J.yld i H x H' ∧ tn (i + 1) s2.heap ∧ ∀ b ∈ fp, H' b = none) E s1) E s
  done : ∀ (X : Cx), X.prog = P → X.w = w → X.K = K → X.calm = true → ∀ (i : Nat) (pins : List (Addr × Obj)) (s : Shared) (σ : St) (H : Hp) (E : Value → Shared → Prop), Inv X pins σ H s → (∀ b ∈ fp, FpOk X pins H b) → tn i s.heap → J.stop i H →
    wpAny (model P w) X.A (pyNext (.ref it)) (fun r s1 => r = none ∧ Inv X pins σ H s1) E s
  self : ∀ (A : Around) (i : Nat) (s : Shared) (Q : Value → Shared → Prop) (E : Value → Shared → Prop), tn i s.heap → Q (.ref it) s → wpAny (model P w) A (pyIter (.ref it)) Q E s
abbrev TI := St → Hp → (It → Hp → Prop) → Prop
def PIE (X : Cx) (pins : List (Addr × Obj)) (σ : St) (tg : Expr) (R : It → Hp → Prop) (itv : Value) (s2 : Shared) : Prop :=
  ∃ (it : Addr) (fp : List Addr) (tn : Nat → Heap → Prop) (J : It) (H' : Hp), itv = .ref it ∧ Inv X pins σ H' s2 ∧ Turn X.prog X.w X.K tg J fp it tn ∧ tn 0 s2.heap ∧ (∀ b ∈ fp, FpOk X pins H' b) ∧ R J H'
def PI (X : Cx) (tg iter : Expr) (wi : TI) : Prop :=
  ∀ (pins : List (Addr × Obj)) (s : Shared) (σ : St) (H : Hp) (R : It → Hp → Prop), Inv X pins σ H s → wi σ H R →
    wpAny (model X.prog X.w) X.A (eval iter X.env) (fun v s1 => wpAny (model X.prog X.w) X.A (pyIter v) (PIE X pins σ tg R) X.xe s1) X.xe s
theorem go_of {M : Model} {A : Around} {E : Value → Shared → Prop} {s : Shared} {tg : Expr} {it : Addr} {u : Value} {o : Obj} {n : String} {vs : Array Value} {Q : Unit → Shared → Prop} (ho : s.heap.get? it = some o) (hc : o.cls = .type n) (hd : o.data = .fields vs)
    (hn : ["enumerate", "zip", "dict_itemiterator", "dict_reverseitemiterator", "odict_iterator", "itertools.zip_longest", "itertools.pairwise"].contains n = false) (hQ : Q () s) : wpAny M A (letOwnedTupleGo tg (.ref it) u) Q E s := by
  unfold letOwnedTupleGo
  cases tg <;> first
    | exact wpAny_pure hQ
    | (cases u <;> first
        | exact wpAny_pure hQ
        | (refine wpAny_bind (wpAny_load ho ?_)
           rw [hc, hd]
           show wpAny M A (if (["enumerate", "zip", "dict_itemiterator", "dict_reverseitemiterator", "odict_iterator", "itertools.zip_longest", "itertools.pairwise"].contains n && vs[0]? == some (rawInt _)) = true then _ else _) Q E s
           rw [if_neg (by intro h; rw [hn, Bool.false_and] at h; cases h)]
           exact wpAny_pure hQ))
def Itl (K : PySem.W.Frag) (a : Addr) : It :=
  ⟨fun i H => ∃ xs x, SqL K H a xs ∧ xs[i]? = some x, fun i H x H' => H' = H ∧ ∀ xs, SqL K H a xs → xs[i]? = some x, fun i H => ∃ xs, SqL K H a xs ∧ xs.length ≤ i⟩
def Itt (K : PySem.W.Frag) (a : Addr) : It :=
  ⟨fun i H => ∃ xs x, SqT K H a xs ∧ xs[i]? = some x, fun i H x H' => H' = H ∧ ∀ xs, SqT K H a xs → xs[i]? = some x, fun i H => ∃ xs, SqT K H a xs ∧ xs.length ≤ i⟩
def Itr (lo : Int) (n : Nat) : It := ⟨fun i _ => i < n, fun i H x H' => H' = H ∧ x = .int (lo + i), fun i _ => n ≤ i⟩
theorem turn_list {P : Program} {w : World} {K : PySem.W.Frag} {tg : Expr} (a it : Addr) : Turn P w K tg (Itl K a) [it] it (fun i h => h.IsListIter it a i) where
  mem := by simp
  obj := fun i h st b hb => by
    have e : b = it := by simpa using hb
    subst e
    obtain ⟨o, e, c, d⟩ := st
    exact ⟨o, e, fun v z => by rw [d] at z; cases z⟩
  keep := fun i h h' st k => st.at fun o e => k it (by simp) o e
  item := by
    intro X hP hw hK hc i pins s σ H E I hf st hg
    subst hP hw hK
    obtain ⟨xs, x, hq, hx⟩ := hg
    obtain ⟨its, rv, p, hz⟩ := I.list hq
    obtain ⟨u, hu, ru⟩ := rv.get hx
    obtain ⟨f0, f1, f2, f3, f4, f5⟩ := hf it (by simp)
    refine wpAny_pyNext_list_item st p.isList (x := u) (by simpa using hu) fun h' st' sb => ?_
    have I1 : Inv X pins σ H { s with heap := h' } := I.turned (t' := s.toks) (fun b o hb e => (sb.2 b hb).trans e) f0 f1 f3 f4 f5
    obtain ⟨o, e, c, d⟩ := id st'
    exact ⟨u, rfl, go_of (s := { s with heap := h' }) e c d (by decide) ⟨x, H, I1, ru, ⟨rfl, fun ys hy => by rw [I.list_inj hy hq]; exact hx⟩, st', fun b hb => (hf b hb).1⟩⟩
  done := by
    intro X hP hw hK hc i pins s σ H E I hf st hg
    subst hP hw hK
    obtain ⟨xs, hq, hx⟩ := hg
    obtain ⟨its, rv, p, hz⟩ := I.list hq
    obtain ⟨f0, f1, f2, f3, f4, f5⟩ := hf it (by simp)
    have hl := rv.length
    exact wpAny_pyNext_list_end (I.ok.hd hc) st p.isList (by simp; omega) fun h' eb => ⟨rfl, I.turned (t' := s.toks) (fun b o hb e => eb b o hb e) f0 f1 f3 f4 f5⟩
  self := fun _ _ _ _ _ st h => wpAny_pyIter_listiter st h
theorem turn_range {P : Program} {w : World} {K : PySem.W.Frag} {tg : Expr} (it : Addr) (lo : Int) (n : Nat) : Turn P w K tg (Itr lo n) [it] it (fun i h => IsRangeIter h it (lo + (i : Nat) * 1) ((n : Int) - (i : Nat)) 1) where
  mem := by simp
  obj := fun i h st b hb => by
    have e : b = it := by simpa using hb
    subst e
    exact ⟨_, st, fun v z => by
      have z' : Data.fields _ = Data.cell v := z
      cases z'⟩
  keep := fun i h h' st k => k it (by simp) _ st
  item := by
    intro X hP hw hK hc i pins s σ H E I hf st hg
    subst hP hw hK
    obtain ⟨f0, f1, f2, f3, f4, f5⟩ := hf it (by simp)
    have W := Walks.range (prog := X.prog) (w := X.w) (I.ok.hd hc) it lo 1 n
    refine W.item i s _ _ hg st fun v h' tk hv st' kk => ?_
    obtain ⟨t, rfl⟩ := hv
    have I1 : Inv X pins σ H { s with heap := h', toks := tk } := I.turned (fun b o hb e => kk b o (by simpa using hb) e) f0 f1 f3 f4 f5
    refine ⟨_, rfl, go_of (s := { s with heap := h', toks := tk }) (n := "range_iterator") st' rfl rfl (by decide) ⟨.int (lo + i), H, I1, ⟨t, ?_⟩, ⟨rfl, rfl⟩, st', fun b hb => (hf b hb).1⟩⟩
    rw [Int.mul_one]
  done := by
    intro X hP hw hK hc i pins s σ H E I hf st hg
    subst hP hw hK
    obtain ⟨f0, f1, f2, f3, f4, f5⟩ := hf it (by simp)
    exact wpAny_pyNext_range_end (I.ok.hd hc) st (by have : n ≤ i := hg; omega) fun h' eb => ⟨rfl, I.turned (t' := s.toks) (fun b o hb e => eb b o hb e) f0 f1 f3 f4 f5⟩
  self := fun _ _ _ _ _ st h => wpAny_pyIter_rangeiter st h
end L2
namespace L2
open PySem PySem.Spec PyProof.Rows
section
variable {X : Cx} {tg : Expr}
def iList (K : PySem.W.Frag) (tl : TE) : TI := fun σ H R => tl σ H fun x H1 => ∃ a, x = .ref a ∧ (∃ xs, SqL K H1 a xs) ∧ R (Itl K a) H1
def iTup (K : PySem.W.Frag) (tl : TE) : TI := fun σ H R => tl σ H fun x H1 => ∃ a, x = .ref a ∧ (∃ xs, SqT K H1 a xs) ∧ R (Itt K a) H1
theorem pi_list {l : Expr} {tl : TE} (hl : PE X l tl) : PI X tg l (iList X.K tl) := by
  intro pins s σ H R I h
  refine thn (hl pins s σ H _ I h) fun v s1 ⟨x, H1, I1, r1, q1⟩ => ?_
  obtain ⟨a, e, ⟨xs, hq⟩, q⟩ := q1
  subst e
  cases r1
  obtain ⟨its, rv, p, hz⟩ := I1.list hq
  refine wpAny_pyIter_list p.isList ?_
  refine ⟨s1.heap.objs.size, [s1.heap.objs.size], _, _, H1, rfl, I1.kept (t' := s1.toks) fun b o e => Heap.get?_push_of_some _ e, turn_list a _, ⟨_, Heap.get?_push_size _ rfl, rfl, rfl⟩, fun b hb => ?_, q⟩
  have e : b = s1.heap.objs.size := by simpa using hb
  subst e
  exact I1.fpOk (Nat.le_refl _) (I1.hok.fresh (Nat.le_refl _))
theorem range_it {pins : List (Addr × Obj)} {σ : St} {H : Hp} {s : Shared} {R : It → Hp → Prop} {E : Value → Shared → Prop} {lo hi : Int} {t u v : Tok} {tk : Nat} (I : Inv X pins σ H s) (h1 : -(2 ^ 62) ≤ lo) (h2 : lo < 2 ^ 62) (h3 : -(2 ^ 62) ≤ hi) (h4 : hi < 2 ^ 62)
    (q : R (Itr lo (hi - lo).toNat) H) : wpAny (model X.prog X.w) X.A (pyIter (.ref s.heap.objs.size)) (PIE X pins σ tg R) E { s with heap := s.heap.push { cls := .type "range", data := .fields #[.int lo t, .int hi u, .int 1 v] }, toks := tk } := by
  refine wpAny_pyIter_range (IsRange.new ..) (small_one h1 h2 h3 h4) ?_
  have I1 : Inv X pins σ H { s with heap := s.heap.push { cls := .type "range", data := .fields #[.int lo t, .int hi u, .int 1 v] }, toks := tk } := I.kept fun b o e => Heap.get?_push_of_some _ e
  refine ⟨(s.heap.push { cls := .type "range", data := .fields #[.int lo t, .int hi u, .int 1 v] }).objs.size, [(s.heap.push { cls := .type "range", data := .fields #[.int lo t, .int hi u, .int 1 v] }).objs.size], _, _, H, rfl,
    I1.kept (t' := tk) fun b o e => Heap.get?_push_of_some _ e, turn_range _ lo (hi - lo).toNat, ?_, fun b hb => ?_, q⟩
  · have e1 : lo + ((0 : Nat) : Int) * 1 = lo := by simp
    have e2 : (((hi - lo).toNat : Nat) : Int) - ((0 : Nat) : Int) = Builtin.Range.rangeSize lo hi 1 := by rw [rangeSize_one]; split <;> omega
    show IsRangeIter _ _ (lo + ((0 : Nat) : Int) * 1) ((((hi - lo).toNat : Nat) : Int) - ((0 : Nat) : Int)) 1
    rw [e1, e2]
    exact Heap.get?_push_size _ rfl
  · have e : b = (s.heap.push { cls := .type "range", data := .fields #[.int lo t, .int hi u, .int 1 v] }).objs.size := by simpa using hb
    subst e
    exact I1.fpOk (Nat.le_refl _) (I1.hok.fresh (Nat.le_refl _))
def iRng1 (ta : TA) : TI := fun σ H R => ta σ H fun vs H1 => ∃ j : Int, vs = [.int j] ∧ -(2 ^ 62) ≤ j ∧ j < 2 ^ 62 ∧ R (Itr 0 j.toNat) H1
def iRng2 (ta : TA) : TI := fun σ H R => ta σ H fun vs H1 => ∃ i j : Int, vs = [.int i, .int j] ∧ (-(2 ^ 62) ≤ i ∧ i < 2 ^ 62 ∧ -(2 ^ 62) ≤ j ∧ j < 2 ^ 62) ∧ R (Itr i (j - i).toNat) H1
theorem pi_range1 {a : Expr} {ta : TA} {p pos : Pos} (hg : Gl X "range") (hm : X.mg "range" = none) (ha : PA X [a] ta) (hs : starEach [a] X.env = [(false, eval a X.env)] := by rfl) : PI X tg (.Call (.Name "range" p) [a] [] pos) (iRng1 ta) := by
  intro pins s σ H R I h
  refine Call_ (ld_blt I hg hm boot_range (PyProof.Rows.callWith_type1 (thn (ha pos pins s σ H _ I h) fun us s1 ⟨vs, H1, I1, r1, q1⟩ => ?_) hs rfl))
  obtain ⟨j, e, q1, q2, q⟩ := q1
  subst e
  cases r1 with
  | cons r rr =>
    cases rr
    obtain ⟨t, rfl⟩ := r
    exact call_range_1 (range_it I1 (by omega) (by omega) q1 q2 (by simpa using q))
def tFor (wi : TI) (g : TG) (tb : TS) : TS := fun D σ H => wi σ H fun J H1 => ∃ W : Nat → Nat → St → Hp → Prop, (∃ m, W 0 m σ H1) ∧ ∀ i m σ H, W i m σ H →
  (J.stop i H ∧ D.nx σ H) ∨ (J.go i H ∧ ∃ N : St → Hp → Prop, (∀ σ' H', N σ' H' → ∃ m', m' < m ∧ W (i + 1) m' σ' H') ∧ ∀ x H', J.yld i H x H' → g x σ H' fun σ2 H2 => tb { D with nx := N, ct := N, bk := D.nx } σ2 H2)
def pinsAt (fp : List Addr) (h : Heap) : List (Addr × Obj) := fp.filterMap fun b => (h.get? b).map fun o => (b, o)
theorem mem_pinsAt {fp : List Addr} {h : Heap} {b : Addr} {o : Obj} (hb : b ∈ fp) (e : h.get? b = some o) : (b, o) ∈ pinsAt fp h := List.mem_filterMap.mpr ⟨b, hb, by rw [e]; rfl⟩
theorem of_pinsAt {fp : List Addr} {h : Heap} {p : Addr × Obj} (hp : p ∈ pinsAt fp h) : p.1 ∈ fp ∧ h.get? p.1 = some p.2 := by
  obtain ⟨b, hb, e⟩ := List.mem_filterMap.mp hp
  cases q : h.get? b with
  | none => rw [q] at e; cases e
  | some o =>
    rw [q] at e
    have e' : (b, o) = p := Option.some.inj e
    subst e'
    exact ⟨hb, q⟩
theorem Inv.pinned {pins : List (Addr × Obj)} {σ : St} {H : Hp} {s : Shared} {fp : List Addr} (I : Inv X pins σ H s) (hf : ∀ b ∈ fp, FpOk X pins H b) (ho : ∀ b ∈ fp, ∃ o, s.heap.get? b = some o ∧ ∀ v, o.data ≠ .cell v) : Inv X (pins ++ pinsAt fp s.heap) σ H s :=
  I.pins_of fun p hp => (List.mem_append.mp hp).elim (fun z => I.pin p (List.mem_append_right _ z)) fun z => by
    obtain ⟨hb, e⟩ := of_pinsAt z
    obtain ⟨f0, f1, f2, _⟩ := hf p.1 hb
    obtain ⟨o, e', d⟩ := ho p.1 hb
    rw [e] at e'; cases e'
    exact ⟨e, f0, f1, f2, d⟩
theorem Inv.unpinned {pins pl : List (Addr × Obj)} {σ : St} {H : Hp} {s : Shared} (I : Inv X (pins ++ pl) σ H s) : Inv X pins σ H s := I.pins_of fun p hp => I.pin p (List.mem_append_right _ (List.mem_append_left _ hp))
theorem ps_for {iter : Expr} {body : List Stmt} {wi : TI} {g : TG} {tb : TS} {pos : Pos} (hp : PassesOwn (model X.prog X.w) X.A X.env X.xe) (hc : X.calm = true) (hi : PI X tg iter wi) (hg : PG X tg g) (hb : PSs X body tb)
    (hs : ∀ x, foldedSetIterable iter X.env x = pure x := by intro _; rfl) : PS X (.For tg iter body [] pos) (tFor wi g tb) := by
  intro pins s σ H D I h
  refine wpAny_For (thn (hi pins s σ H _ I h) fun v s1 h1 => thn h1 fun itv s2 h2 => ?_) hs
  obtain ⟨it, fp, tn, J, H2, e, I2, T, st2, f2, W, ⟨m0, w0⟩, turn⟩ := h2
  subst e
  have stat : ∀ {H' : Hp}, (∀ b ∈ fp, H' b = none) → ∀ b ∈ fp, FpOk X pins H' b := fun hn b hb => ⟨hn b hb, (f2 b hb).2⟩
  refine codeAny_forLoop_any (fun n s' => ∃ i σ' H', Inv X pins σ' H' s' ∧ tn i s'.heap ∧ (∀ b ∈ fp, H' b = none) ∧ W i n σ' H') ?_ m0 ⟨0, σ, H2, I2, st2, fun b hb => (f2 b hb).1, w0⟩
  rintro n s3 ⟨i, σ3, H3, I3, st3, fr3, w3⟩
  rcases turn i n σ3 H3 w3 with ⟨stop, qn⟩ | ⟨go, N, hN, step⟩
  · refine wpAny_passesOwn hp (thn (T.done X rfl rfl rfl hc i pins s3 σ3 H3 X.xe I3 (stat fr3) st3 stop) fun r s4 ⟨hr, I4⟩ => ?_)
    subst hr
    exact wpAny_execs_nil ⟨σ3, H3, I4, qn⟩
  · refine wpAny_passesOwn hp (thn (T.item X rfl rfl rfl hc i pins s3 σ3 H3 X.xe I3 (stat fr3) st3 go) fun r s4 ⟨u, hr, h4⟩ => ?_)
    subst hr
    refine wpAny_passesOwn hp (thn h4 fun _ s5 ⟨x, H5, I5, r5, y5, st5, fr5⟩ => ?_)
    have I5' := I5.pinned (stat fr5) (T.obj _ _ st5)
    refine wpAny_passesOwn hp (thn (hg _ s5 σ3 H5 x u _ I5' r5 (step x H5 y5)) fun _ s6 ⟨σ6, H6, I6, q6⟩ => ?_)
    refine wpAny_passesOwn hp (thn (hb _ s6 σ6 H6 _ I6 q6) fun f s7 q7 => ?_)
    have again : ∀ {σ7 : St} {H7 : Hp}, Inv X (pins ++ pinsAt fp s5.heap) σ7 H7 s7 → N σ7 H7 → ∃ m, m < n ∧ ∃ i σ' H', Inv X pins σ' H' s7 ∧ tn i s7.heap ∧ (∀ b ∈ fp, H' b = none) ∧ W i m σ' H' := fun {σ7 H7} I7 n7 => by
      obtain ⟨m', hm, w7⟩ := hN σ7 H7 n7
      refine ⟨m', hm, i + 1, σ7, H7, I7.unpinned, T.keep _ _ _ st5 fun b hb o e => (I7.pin (b, o) (List.mem_append_right _ (List.mem_append_right _ (mem_pinsAt hb e)))).1, fun b hb => ?_, w7⟩
      obtain ⟨o, e, d⟩ := T.obj _ _ st5 b hb
      exact (I7.pin (b, o) (List.mem_append_right _ (List.mem_append_right _ (mem_pinsAt hb e)))).2.1
    cases f with
    | next => obtain ⟨σ7, H7, I7, n7⟩ := q7; exact again I7 n7
    | cont => obtain ⟨σ7, H7, I7, n7⟩ := q7; exact again I7 n7
    | brk => obtain ⟨σ7, H7, I7, q7⟩ := q7; exact ⟨σ7, H7, I7.unpinned, q7⟩
    | ret v => obtain ⟨x7, σ7, H7, I7, r7, q7⟩ := q7; exact ⟨x7, σ7, H7, I7.unpinned, r7, q7⟩
end
theorem for_list {K : PySem.W.Frag} {a : Addr} {xs : List V} {g : TG} {tb : TS} {D : Ends} {σ : St} {H : Hp} (Pv : Nat → St → Hp → Prop) (h0 : Pv 0 σ H) (hl : ∀ i σ H, i ≤ xs.length → Pv i σ H → SqL K H a xs)
    (hs : ∀ i x σ H, xs[i]? = some x → Pv i σ H → g x σ H fun σ2 H2 => tb { D with nx := Pv (i + 1), ct := Pv (i + 1), bk := D.nx } σ2 H2) (hd : ∀ σ H, Pv xs.length σ H → D.nx σ H) :
    ∃ W : Nat → Nat → St → Hp → Prop, (∃ m, W 0 m σ H) ∧ ∀ i m σ H, W i m σ H →
      ((Itl K a).stop i H ∧ D.nx σ H) ∨ ((Itl K a).go i H ∧ ∃ N : St → Hp → Prop, (∀ σ' H', N σ' H' → ∃ m', m' < m ∧ W (i + 1) m' σ' H') ∧ ∀ x H', (Itl K a).yld i H x H' → g x σ H' fun σ2 H2 => tb { D with nx := N, ct := N, bk := D.nx } σ2 H2) := by
  refine ⟨fun i m σ H => m = xs.length - i ∧ i ≤ xs.length ∧ Pv i σ H, ⟨xs.length, by simp, Nat.zero_le _, h0⟩, ?_⟩
  rintro i m σ H ⟨rfl, hi, p⟩
  have q := hl i σ H hi p
  by_cases hlt : i < xs.length
  · refine .inr ⟨⟨xs, xs[i], q, by simp [hlt]⟩, Pv (i + 1), fun σ' H' p' => ⟨xs.length - (i + 1), by omega, rfl, hlt, p'⟩, fun x H' y => ?_⟩
    obtain ⟨e, y⟩ := y
    subst e
    exact hs i x σ _ (y xs q) p
  · have e : i = xs.length := by omega
    subst e
    exact .inl ⟨⟨xs, q, Nat.le_refl _⟩, hd σ H p⟩
theorem for_range {lo : Int} {n : Nat} {g : TG} {tb : TS} {D : Ends} {σ : St} {H : Hp} (Pv : Nat → St → Hp → Prop) (h0 : Pv 0 σ H)
    (hs : ∀ i σ H, i < n → Pv i σ H → g (.int (lo + i)) σ H fun σ2 H2 => tb { D with nx := Pv (i + 1), ct := Pv (i + 1), bk := D.nx } σ2 H2) (hd : ∀ σ H, Pv n σ H → D.nx σ H) :
    ∃ W : Nat → Nat → St → Hp → Prop, (∃ m, W 0 m σ H) ∧ ∀ i m σ H, W i m σ H →
      ((Itr lo n).stop i H ∧ D.nx σ H) ∨ ((Itr lo n).go i H ∧ ∃ N : St → Hp → Prop, (∀ σ' H', N σ' H' → ∃ m', m' < m ∧ W (i + 1) m' σ' H') ∧ ∀ x H', (Itr lo n).yld i H x H' → g x σ H' fun σ2 H2 => tb { D with nx := N, ct := N, bk := D.nx } σ2 H2) := by
  refine ⟨fun i m σ H => m = n - i ∧ i ≤ n ∧ Pv i σ H, ⟨n, by simp, Nat.zero_le _, h0⟩, ?_⟩
  rintro i m σ H ⟨rfl, hi, p⟩
  by_cases hlt : i < n
  · refine .inr ⟨hlt, Pv (i + 1), fun σ' H' p' => ⟨n - (i + 1), by omega, rfl, hlt, p'⟩, fun x H' y => ?_⟩
    obtain ⟨e, y⟩ := y
    subst e y
    exact hs i σ _ hlt p
  · have e : i = n := by omega
    subst e
    exact .inl ⟨Nat.le_refl _, hd σ H p⟩
end L2
namespace L2
open PySem PySem.Spec PyProof.Rows
abbrev R2 := V → V → Hp → VK → Prop
def OpR (X : Cx) (f : Value → Value → Sem Value) (r : R2) : Prop :=
  ∀ (pins : List (Addr × Obj)) (s : Shared) (σ : St) (H : Hp) (x y : V) (v u : Value) (Q : VK), Inv X pins σ H s → RelV x v → RelV y u → r x y H Q →
    wpAny (model X.prog X.w) X.A (f v u) (EP X pins σ Q) X.xe s
def UnR (X : Cx) (f : Value → Sem Value) (r : V → Hp → VK → Prop) : Prop :=
  ∀ (pins : List (Addr × Obj)) (s : Shared) (σ : St) (H : Hp) (x : V) (v : Value) (Q : VK), Inv X pins σ H s → RelV x v → r x H Q →
    wpAny (model X.prog X.w) X.A (f v) (EP X pins σ Q) X.xe s
def CallR (X : Cx) (f : Value) (r : List V → Hp → VK → Prop) : Prop :=
  ∀ (pins : List (Addr × Obj)) (s : Shared) (σ : St) (H : Hp) (xs : List V) (us : List Value) (Q : VK), Inv X pins σ H s → Vals xs us → r xs H Q →
    wpAny (model X.prog X.w) X.A (call f us) (EP X pins σ Q) X.xe s
def TruR (X : Cx) (r : V → Hp → (Bool → Hp → Prop) → Prop) : Prop :=
  ∀ (pins : List (Addr × Obj)) (s : Shared) (σ : St) (H : Hp) (x : V) (v : Value) (Q : Bool → Hp → Prop), Inv X pins σ H s → RelV x v → r x H Q →
    wpAny (model X.prog X.w) X.A (truthy v) (TP X pins σ Q) X.xe s
def tOp (r : R2) (ta tb : TE) : TE := fun σ H Q => ta σ H fun x H1 => tb σ H1 fun y H2 => r x y H2 Q
def tUn (r : V → Hp → VK → Prop) (ta : TE) : TE := fun σ H Q => ta σ H fun x H1 => r x H1 Q
def rI (C : Int → Int → Prop) (g : Int → Int → V) : R2 := fun x y H Q => ∃ i j, x = .int i ∧ y = .int j ∧ C i j ∧ Q (g i j) H
def rI0 (g : Int → Int → V) : R2 := fun x y H Q => ∃ i j, x = .int i ∧ y = .int j ∧ Q (g i j) H
def rU (g : Int → V) : V → Hp → VK → Prop := fun x H Q => ∃ i, x = .int i ∧ Q (g i) H
section
variable {X : Cx} {a b c : Expr} {ta tb tc : TE} {pos : Pos}
theorem binT (ha : PE X a ta) (hb : PE X b tb) {pins : List (Addr × Obj)} {s : Shared} {σ : St} {H : Hp} {R : V → V → Hp → Prop} (I : Inv X pins σ H s)
    (h : ta σ H fun x H1 => tb σ H1 fun y H2 => R x y H2) {Q : Value → Shared → Prop} {f : Value → Value → Sem Value}
    (hf : ∀ v u s2 x y H2, Inv X pins σ H2 s2 → RelV x v → RelV y u → R x y H2 → wpAny (model X.prog X.w) X.A (f v u) Q X.xe s2) :
    wpAny (model X.prog X.w) X.A (eval a X.env) (fun v s₁ => wpAny (model X.prog X.w) X.A (eval b X.env) (fun u s₂ => wpAny (model X.prog X.w) X.A (f v u) Q X.xe s₂) X.xe s₁) X.xe s := by
  refine thn (ha pins s σ H _ I h) fun v s1 ⟨x, H1, I1, r1, q1⟩ => ?_
  refine thn (hb pins s1 σ H1 _ I1 q1) fun u s2 ⟨y, H2, I2, r2, q2⟩ => ?_
  exact hf v u s2 x y H2 I2 r1 r2 q2
theorem pe_op {op : Operator} {r : R2} (ho : OpR X (binaryOp op) r) (ha : PE X a ta) (hb : PE X b tb) : PE X (.BinOp a op b pos) (tOp r ta tb) := by
  intro pins s σ H Q I h
  exact wpAny_BinOp (binT ha hb I h fun v u s2 x y H2 I2 rx ry q => ho pins s2 σ H2 x y v u Q I2 rx ry q)
theorem pe_un {op : UnaryOp} {r : V → Hp → VK → Prop} (ho : UnR X (unaryOp op) r) (ha : PE X a ta) : PE X (.UnaryOp op a pos) (tUn r ta) := by
  intro pins s σ H Q I h
  exact UnaryOp_ (thn (ha pins s σ H _ I h) fun v s1 ⟨x, H1, I1, r1, q1⟩ => ho pins s1 σ H1 x v Q I1 r1 q1)
theorem opI {f : Value → Value → Sem Value} {C : Int → Int → Prop} {g : Int → Int → Int}
    (rule : ∀ (i j : Int) (t u : Tok) (s : Shared) (Q : Value → Shared → Prop) (E : Value → Shared → Prop), C i j → Q (.int (g i j) s.toks) { s with toks := s.toks + 1 } → wpAny (model X.prog X.w) X.A (f (.int i t) (.int j u)) Q E s) :
    OpR X f (rI C fun i j => .int (g i j)) := by
  intro pins s σ H x y v u Q I rx ry h
  obtain ⟨i, j, rfl, rfl, hc, q⟩ := h
  obtain ⟨t, rfl⟩ := rx
  obtain ⟨t', rfl⟩ := ry
  exact rule i j t t' s _ _ hc ⟨.int (g i j), H, I.tok _, ⟨_, rfl⟩, q⟩
theorem opI0 {f : Value → Value → Sem Value} {g : Int → Int → Int}
    (rule : ∀ (i j : Int) (t u : Tok) (s : Shared) (Q : Value → Shared → Prop) (E : Value → Shared → Prop), Q (.int (g i j) s.toks) { s with toks := s.toks + 1 } → wpAny (model X.prog X.w) X.A (f (.int i t) (.int j u)) Q E s) :
    OpR X f (rI0 fun i j => .int (g i j)) := by
  intro pins s σ H x y v u Q I rx ry h
  obtain ⟨i, j, rfl, rfl, q⟩ := h
  obtain ⟨t, rfl⟩ := rx
  obtain ⟨t', rfl⟩ := ry
  exact rule i j t t' s _ _ ⟨.int (g i j), H, I.tok _, ⟨_, rfl⟩, q⟩
theorem opB0 {f : Value → Value → Sem Value} {g : Int → Int → Bool}
    (rule : ∀ (i j : Int) (t u : Tok) (s : Shared) (Q : Value → Shared → Prop) (E : Value → Shared → Prop), Q (.bool (g i j)) s → wpAny (model X.prog X.w) X.A (f (.int i t) (.int j u)) Q E s) :
    OpR X f (rI0 fun i j => .bl (g i j)) := by
  intro pins s σ H x y v u Q I rx ry h
  obtain ⟨i, j, rfl, rfl, q⟩ := h
  obtain ⟨t, rfl⟩ := rx
  obtain ⟨t', rfl⟩ := ry
  exact rule i j t t' s _ _ ⟨.bl (g i j), H, I, rfl, q⟩
def CDiv (i j : Int) : Prop := 0 < j ∧ j < 1073741824
def CDivN (i j : Int) : Prop := j ≠ 0 ∧ j.natAbs < 1073741824
def CPow (i j : Int) : Prop := 0 ≤ j ∧ j ≤ 1000000 ∧ i.natAbs < 2 ^ 64
def CMul (i j : Int) : Prop := (-(2 ^ 64) < i ∧ i < 2 ^ 64) ∨ (-(2 ^ 64) < j ∧ j < 2 ^ 64)
theorem CMul.ok {i j : Int} (h : CMul i j) : IntMulOk i j := by
  rcases h with ⟨h1, h2⟩ | ⟨h1, h2⟩
  · exact .of_left (intBits_le_64 h1 h2)
  · exact .of_right (intBits_le_64 h1 h2)
theorem op_add : OpR X (binaryOp .Add) (rI0 fun i j => .int (i + j)) := opI0 fun _ _ _ _ _ _ _ q => add_int q
theorem op_sub : OpR X (binaryOp .Sub) (rI0 fun i j => .int (i - j)) := opI0 fun _ _ _ _ _ _ _ q => sub_int q
theorem op_mul : OpR X (binaryOp .Mult) (rI CMul fun i j => .int (i * j)) := opI fun _ _ _ _ _ _ _ hc q => mul_int q hc.ok
theorem op_fdiv : OpR X (binaryOp .FloorDiv) (rI CDiv fun i j => .int (i / j)) := opI fun i j _ _ _ _ _ hc q => by
  have h1 : (0 : Int) < j := hc.1
  have h2 : j < 1073741824 := hc.2
  exact floordiv_int (by omega) (by rw [Int.fdiv_eq_ediv_of_nonneg i (by omega)]; exact q) (.inl (PyProof.noPylong_small (by omega)))
theorem op_mod : OpR X (binaryOp .Mod) (rI (fun _ j => 0 < j) fun i j => .int (i % j)) := opI fun i j _ _ _ _ _ hc q => by
  have h1 : (0 : Int) < j := hc
  exact mod_int' (by omega) (by rw [Int.fmod_eq_emod_of_nonneg i (by omega)]; exact q)
theorem unI {f : Value → Sem Value} {g : Int → Int}
    (rule : ∀ (i : Int) (t : Tok) (s : Shared) (Q : Value → Shared → Prop) (E : Value → Shared → Prop), Q (.int (g i) s.toks) { s with toks := s.toks + 1 } → wpAny (model X.prog X.w) X.A (f (.int i t)) Q E s) :
    UnR X f (rU fun i => .int (g i)) := by
  intro pins s σ H x v Q I rx h
  obtain ⟨i, rfl, q⟩ := h
  obtain ⟨t, rfl⟩ := rx
  exact rule i t s _ _ ⟨.int (g i), H, I.tok _, ⟨_, rfl⟩, q⟩
theorem un_neg : UnR X (unaryOp .USub) (rU fun i => .int (-i)) := unI fun _ _ _ _ _ q => neg_int q
end
def scal : V → V → Bool
  | .non, .non => true | .non, .int _ => true | .int _, .non => true | .non, .bl _ => true | .bl _, .non => true | .non, .str _ => true | .str _, .non => true
  | .int _, .int _ => true | .bl _, .bl _ => true | .str _, .str _ => true | .byt _, .byt _ => true
  | .int _, .str _ => true | .str _, .int _ => true | .bl _, .str _ => true | .str _, .bl _ => true
  | _, _ => false
def rEq : R2 := fun x y H Q => scal x y = true ∧ Q (.bl (decide (x = y))) H
def rNe : R2 := fun x y H Q => scal x y = true ∧ Q (.bl (!decide (x = y))) H
theorem dec_int {i j : Int} : decide (V.int i = V.int j) = (i == j) := by
  rw [Bool.eq_iff_iff]
  simp
theorem dec_bl {i j : Bool} : decide (V.bl i = V.bl j) = (i == j) := by
  rw [Bool.eq_iff_iff]
  simp
theorem dec_str {i j : Str} : decide (V.str i = V.str j) = (i == j) := by
  rw [Bool.eq_iff_iff]
  simp
theorem dec_byt {i j : Array UInt8} : decide (V.byt i = V.byt j) = (i.toList == j.toList) := by
  rw [Bool.eq_iff_iff]
  cases i
  cases j
  simp
section
variable {X : Cx} {a b c : Expr} {ta tb tc : TE} {pos : Pos}
theorem fin_bl {pins : List (Addr × Obj)} {σ : St} {H : Hp} {s : Shared} {Q : VK} {k k' : Bool} (I : Inv X pins σ H s) (q : Q (.bl k) H) (e : k = k') : EP X pins σ Q (.bool k') s := by
  subst e
  exact ⟨.bl k, H, I, rfl, q⟩
theorem op_eq : OpR X (compareOp .Eq) rEq := by
  intro pins s σ H x y v u Q I rx ry h
  obtain ⟨hs, q⟩ := h
  cases x with
  | non =>
    cases rx
    cases y with
    | non => cases ry; exact PySem.EqNone.eq_none_none (fin_bl I q (by simp))
    | bl j => cases ry; exact PySem.EqNone.eq_none_bool (fin_bl I q (by simp))
    | int j => obtain ⟨t', rfl⟩ := ry; exact PySem.EqNone.eq_none_int (fin_bl I q (by simp))
    | str j => obtain ⟨t', rfl⟩ := ry; exact PySem.EqNone.eq_none_str (fin_bl I q (by simp))
    | _ => exact absurd (show false = true from hs) Bool.false_ne_true
  | bl i =>
    cases rx
    cases y with
    | non => cases ry; exact PySem.EqNone.eq_bool_none (fin_bl I q (by simp))
    | bl j => cases ry; exact eq_bool (fin_bl I q dec_bl)
    | str j => obtain ⟨t', rfl⟩ := ry; exact PySem.EqMixed.eq_bool_str (fin_bl I q (by simp))
    | _ => exact absurd (show false = true from hs) Bool.false_ne_true
  | int i =>
    obtain ⟨t, rfl⟩ := rx
    cases y with
    | non => cases ry; exact PySem.EqNone.eq_int_none (fin_bl I q (by simp))
    | int j => obtain ⟨t', rfl⟩ := ry; exact eq_int (fin_bl I q dec_int)
    | str j => obtain ⟨t', rfl⟩ := ry; exact PySem.EqMixed.eq_int_str (fin_bl I q (by simp))
    | _ => exact absurd (show false = true from hs) Bool.false_ne_true
  | str i =>
    obtain ⟨t, rfl⟩ := rx
    cases y with
    | non => cases ry; exact PySem.EqNone.eq_str_none (fin_bl I q (by simp))
    | bl j => cases ry; exact PySem.EqMixed.eq_str_bool (fin_bl I q (by simp))
    | int j => obtain ⟨t', rfl⟩ := ry; exact PySem.EqMixed.eq_str_int (fin_bl I q (by simp))
    | str j => obtain ⟨t', rfl⟩ := ry; exact eq_str (fin_bl I q dec_str)
    | _ => exact absurd (show false = true from hs) Bool.false_ne_true
  | byt i =>
    obtain ⟨t, rfl⟩ := rx
    cases y with
    | byt j => obtain ⟨t', rfl⟩ := ry; exact PySem.W.eq_bytes (fin_bl I q dec_byt)
    | _ => exact absurd (show false = true from hs) Bool.false_ne_true
  | _ => cases y <;> exact absurd (show false = true from hs) Bool.false_ne_true
theorem op_ne : OpR X (compareOp .NotEq) rNe := by
  intro pins s σ H x y v u Q I rx ry h
  obtain ⟨hs, q⟩ := h
  cases x with
  | non =>
    cases rx
    cases y with
    | non => cases ry; exact PySem.EqNone.ne_none_none (fin_bl I q (by simp))
    | bl j => cases ry; exact PySem.EqNone.ne_none_bool (fin_bl I q (by simp))
    | int j => obtain ⟨t', rfl⟩ := ry; exact PySem.EqNone.ne_none_int (fin_bl I q (by simp))
    | str j => obtain ⟨t', rfl⟩ := ry; exact PySem.EqNone.ne_none_str (fin_bl I q (by simp))
    | _ => exact absurd (show false = true from hs) Bool.false_ne_true
  | bl i =>
    cases rx
    cases y with
    | non => cases ry; exact PySem.EqNone.ne_bool_none (fin_bl I q (by simp))
    | bl j => cases ry; exact ne_bool (fin_bl I q (congrArg not dec_bl))
    | str j => obtain ⟨t', rfl⟩ := ry; exact PySem.EqMixed.ne_bool_str (fin_bl I q (by simp))
    | _ => exact absurd (show false = true from hs) Bool.false_ne_true
  | int i =>
    obtain ⟨t, rfl⟩ := rx
    cases y with
    | non => cases ry; exact PySem.EqNone.ne_int_none (fin_bl I q (by simp))
    | int j => obtain ⟨t', rfl⟩ := ry; exact ne_int (fin_bl I q (congrArg not dec_int))
    | str j => obtain ⟨t', rfl⟩ := ry; exact PySem.EqMixed.ne_int_str (fin_bl I q (by simp))
    | _ => exact absurd (show false = true from hs) Bool.false_ne_true
  | str i =>
    obtain ⟨t, rfl⟩ := rx
    cases y with
    | non => cases ry; exact PySem.EqNone.ne_str_none (fin_bl I q (by simp))
    | bl j => cases ry; exact PySem.EqMixed.ne_str_bool (fin_bl I q (by simp))
    | int j => obtain ⟨t', rfl⟩ := ry; exact PySem.EqMixed.ne_str_int (fin_bl I q (by simp))
    | str j => obtain ⟨t', rfl⟩ := ry; exact ne_str (fin_bl I q (congrArg not dec_str))
    | _ => exact absurd (show false = true from hs) Bool.false_ne_true
  | byt i =>
    obtain ⟨t, rfl⟩ := rx
    cases y with
    | byt j => obtain ⟨t', rfl⟩ := ry; exact PySem.W.ne_bytes (fin_bl I q (congrArg not dec_byt))
    | _ => exact absurd (show false = true from hs) Bool.false_ne_true
  | _ => cases y <;> exact absurd (show false = true from hs) Bool.false_ne_true
theorem op_lt : OpR X (compareOp .Lt) (rI0 fun i j => .bl (decide (i < j))) := opB0 fun _ _ _ _ _ _ _ q => lt_int q
theorem op_le : OpR X (compareOp .LtE) (rI0 fun i j => .bl (decide (i ≤ j))) := opB0 fun _ _ _ _ _ _ _ q => le_int q
theorem op_gt : OpR X (compareOp .Gt) (rI0 fun i j => .bl (decide (j < i))) := opB0 fun _ _ _ _ _ _ _ q => gt_int q
theorem op_notN : OpR X (compareOp .IsNot) (fun x y H Q => y = .non ∧ Q (.bl (!decide (x = .non))) H) := by
  intro pins s σ H x y v u Q I rx ry h
  obtain ⟨rfl, q⟩ := h
  cases ry
  refine isnot_none_gen (fin_bl I q ?_)
  cases x <;> first
    | (cases rx; rfl)
    | (obtain ⟨t, rfl⟩ := rx; rfl)
def isObj : HO → Bool
  | .lst _ => true
  | .ins _ _ _ => true
  | _ => false
theorem OpR.or {f : Value → Value → Sem Value} {r r' : R2} (h : OpR X f r) (h' : OpR X f r') : OpR X f (fun x y H Q => r x y H Q ∨ r' x y H Q) := by
  intro pins s σ H x y v u Q I rx ry q
  rcases q with q | q
  · exact h pins s σ H x y v u Q I rx ry q
  · exact h' pins s σ H x y v u Q I rx ry q
theorem nomark (b : Expr) {op : CmpOp} (h : op ≠ .In := by decide) (h2 : op ≠ .NotIn := by decide) : behindInMarks op b = false := by
  have e1 : (op == CmpOp.In) = false := by cases op <;> first | rfl | exact absurd rfl h
  have e2 : (op == CmpOp.NotIn) = false := by cases op <;> first | rfl | exact absurd rfl h2
  cases b <;> simp [behindInMarks, e1, e2]
theorem pe_cmpR {op : CmpOp} {r : R2} (ho : OpR X (compareOp op) r) (ha : PE X a ta) (hb : PE X b tb) (hm : behindInMarks op b = false) : PE X (.Compare a [op] [b] pos) (tOp r ta tb) := by
  intro pins s σ H Q I h
  exact wpAny_Compare1 (binT ha hb I h fun v u s2 x y H2 I2 rx ry q => ho pins s2 σ H2 x y v u Q I2 rx ry q) hm
def tTest (t : TE) : TT := fun σ H Q => t σ H fun x H' => ∃ k, x = .bl k ∧ Q k H'
theorem pt_cmpR {op : CmpOp} {r : R2} (ho : OpR X (compareOp op) r) (ha : PE X a ta) (hb : PE X b tb) (hm : behindInMarks op b = false) : PT X (.Compare a [op] [b] pos) (tTest (tOp r ta tb)) := by
  intro pins s σ H Q I h
  refine wpAny_isTrue_Compare1 (thn (ha pins s σ H _ I h) fun v s1 ⟨x, H1, I1, r1, q1⟩ => thn (hb pins s1 σ H1 _ I1 q1) fun u s2 ⟨y, H2, I2, r2, q2⟩ =>
    thn (ho pins s2 σ H2 x y v u _ I2 r1 r2 q2) fun c s3 ⟨z, H3, I3, r3, k, e, q3⟩ => ?_) hm
  subst e
  cases r3
  exact wpAny_truthy_bool ⟨H3, I3, q3⟩
def tChain (r r' : R2) (ta tb tc : TE) : TE := fun σ H Q => ta σ H fun x H1 => tb σ H1 fun y H2 => r x y H2 fun z H3 => ∃ k, z = .bl k ∧
  (if k = true then tc σ H3 fun w' H4 => r' y w' H4 Q else Q (.bl false) H3)
def TruV (K : PySem.W.Frag) (x : V) (H : Hp) (k : Bool) : Prop :=
  match x with
  | .non => k = false
  | .bl b => k = b
  | .int i => k = (i != 0)
  | .str y => y.length ≤ sizeLine ∧ k = ((y.length : Int) != 0)
  | .byt y => y.size ≤ sizeLine ∧ k = ((y.size : Int) != 0)
  | .ref p => (∃ xs, SqL K H p xs ∧ k = !xs.isEmpty) ∨ (∃ xs, SqT K H p xs ∧ k = !xs.isEmpty) ∨ ∃ kvs, H p = some (.dK kvs) ∧ k = !kvs.isEmpty
  | _ => False
theorem line63 : (sizeLine : Nat) < 2 ^ 63 := by rw [sizeLine_eq]; decide
def PlainIxT (b : Expr) : Prop := ∀ o i, subscripted b false o i = operate [o, i] (getItem o i)
theorem vals1 {x : V} {us : List Value} (r : Vals [x] us) : ∃ u, us = [u] ∧ RelV x u := by
  cases r with
  | cons r1 r2 => cases r2; exact ⟨_, rfl, r1⟩
theorem vals2 {x y : V} {us : List Value} (r : Vals [x, y] us) : ∃ u w', us = [u, w'] ∧ RelV x u ∧ RelV y w' := by
  cases r with
  | cons r1 r2 =>
    cases r2 with
    | cons r3 r4 => cases r4; exact ⟨_, _, rfl, r1, r3⟩
theorem call_max2 (hc : X.calm = true) : CallR X (.builtin "max") (fun xs H Q => ∃ i j, xs = [.int i, .int j] ∧ Q (.int (if j > i then j else i)) H) := by
  intro pins s σ H xs us Q I r h
  obtain ⟨i, j, rfl, q⟩ := h
  obtain ⟨u, w', rfl, ⟨t, rfl⟩, ⟨t', rfl⟩⟩ := vals2 r
  refine max_two_ints (I.ok.hd hc) fun h' tk k => ⟨_, H, I.kept k, ?_, q⟩
  by_cases hj : j > i
  · rw [if_pos hj, if_pos hj]; exact ⟨_, rfl⟩
  · rw [if_neg hj, if_neg hj]; exact ⟨_, rfl⟩
theorem call_min2 (hc : X.calm = true) : CallR X (.builtin "min") (fun xs H Q => ∃ i j, xs = [.int i, .int j] ∧ Q (.int (if j < i then j else i)) H) := by
  intro pins s σ H xs us Q I r h
  obtain ⟨i, j, rfl, q⟩ := h
  obtain ⟨u, w', rfl, ⟨t, rfl⟩, ⟨t', rfl⟩⟩ := vals2 r
  refine min_two_ints (I.ok.hd hc) fun h' tk k => ⟨_, H, I.kept k, ?_, q⟩
  by_cases hj : j < i
  · rw [if_pos hj, if_pos hj]; exact ⟨_, rfl⟩
  · rw [if_neg hj, if_neg hj]; exact ⟨_, rfl⟩
def LenV (K : PySem.W.Frag) (x : V) (H : Hp) (n : Nat) : Prop :=
  match x with
  | .str y => y.length ≤ sizeLine ∧ n = y.length
  | .byt y => y.size ≤ sizeLine ∧ n = y.size
  | .ref p => (∃ xs, SqL K H p xs ∧ n = xs.length) ∨ ∃ xs, SqT K H p xs ∧ n = xs.length
  | _ => False
end
end L2
namespace L2
open PySem PySem.Spec PyProof.Rows
structure ObjM (h : Heap) (x dx C : Addr) (mA : Str → Option Value) : Prop where
  obj : h.get? x = some (PySem.W.instObj C dx)
  ns : h.Ns1 dx mA
  ne : dx ≠ x
theorem lookIn_ns {h : Heap} {dx : Addr} {mA : Str → Option Value} (n : h.Ns1 dx mA) : ∃ od, h.get? dx = some od ∧ ∀ name, PySem.W.lookIn name od = some (mA name) := by
  obtain ⟨o, es, ep, ho, hd, hk, _, hm⟩ := n
  refine ⟨o, ho, fun name => ?_⟩
  have e := hm name
  unfold nsFind findBy at e
  rw [← Array.find?_toList] at e
  unfold PySem.W.lookIn
  rw [hd]
  dsimp only
  split
  · rename_i y q
    rw [q] at e
    exact congrArg some e
  · rename_i q
    rw [q] at e
    have a : es.toList.any (·.refKey) = false := by
      rw [List.any_eq_false]
      intro y hy
      obtain ⟨z, t, hkey⟩ := hk y (Array.mem_toList_iff.mp hy)
      simp [DictEntry.refKey, hkey]
    have a' : ¬ es.toList.any (·.refKey) = true := by rw [a]; exact Bool.false_ne_true
    rw [if_neg a']
    exact congrArg some e
theorem ObjM.look {h : Heap} {x dx C : Addr} {mA : Str → Option Value} (I : ObjM h x dx C mA) : ∃ od, PySem.W.InstAt h x (PySem.W.instObj C dx) C (some od) ∧ ∀ name, PySem.W.lookIn name od = some (mA name) :=
  let ⟨od, ho, hl⟩ := lookIn_ns I.ns
  ⟨od, ⟨I.obj, rfl, rfl, ho⟩, hl⟩
section
variable {prog : Program} {w : World} {A : Around} {E : Value → Shared → Prop} {s : Shared} {K : PySem.W.Frag} {x dx C f : Addr} {mA : Str → Option Value} {name : Str} {v : Value}
theorem get_map {expr : Bool} {Q : Value → Shared → Prop} (X : K.In s.heap) (I : ObjM s.heap x dx C mA) (hg : PySem.W.plainGet K C name = true) (hh : PySem.W.hasDictIn K C = true)
    (ha : PySem.W.findIn K (.ref C) name = some none) (hv : mA name = some v) (hv' : PySem.W.handedIn v = true) (h : Q v { s with toks := s.toks + 1 }) :
    wpAny (model prog w) A (getAttr (.ref x) name expr) Q E s := by
  obtain ⟨od, J, hl⟩ := I.look
  exact PySem.W.get_value X J (PySem.W.plainGet_of hg).1 (PySem.W.findObj_own hh ha rfl (by rw [hl, hv])) hv' h
theorem get_meth {pl : Sem Bool} {Q : Value × List Value → Shared → Prop} (X : K.In s.heap) (I : ObjM s.heap x dx C mA) (hg : PySem.W.plainGet K C name = true)
    (hf : PySem.W.findIn K (.ref C) name = some (some (.ref f))) (ht : PySem.W.isFn K (.ref f) = true) (hv : mA name = none) (h : Q (.ref f, [.ref x]) s) :
    wpAny (model prog w) A (getMethod (.ref x) name pl) Q E s := by
  obtain ⟨od, J, hl⟩ := I.look
  exact PySem.W.method_fn X J (PySem.W.plainGet_of hg).1 (PySem.W.plainGet_of hg).2 hf (beq_iff_eq.mp ht) (by show (PySem.W.lookIn name od).map (·.isSome) = some false; rw [hl, hv]; rfl) h
theorem set_map {ns : List Str} {Q : Unit → Shared → Prop} (X : K.In s.heap) (I : ObjM s.heap x dx C mA)
    (hs : PySem.W.findIn K (.ref C) "__setattr__" = some (some (.builtin "object.__setattr__"))) (hp : PySem.W.plainOver K C = true) (ht : PySem.W.takerIn K C name = some none) (hh : PySem.W.hasDictIn K C = true)
    (hw : PySem.Within mA ns) (hsz : ns.length ≤ sizeLine)
    (h : ∀ h', ObjM h' x dx C (fun y => if y = name then some v else mA y) → Heap.SameBut dx s.heap h' → Q () { s with heap := h', toks := s.toks + 2 }) :
    wpAny (model prog w) A (setAttr (.ref x) name v) Q E s := by
  obtain ⟨od, J, hl⟩ := I.look
  refine PySem.W.set_plain X J hs (PySem.W.osa_open (s := { s with toks := s.toks + 1 }) (r := none) X J hp ht fun b => ?_)
  obtain ⟨cd, hc, hd'⟩ := PySem.W.any_some hh
  have hx : s.heap.get? x = some ⟨.ref C, some dx, .plain, #[]⟩ := I.obj
  refine wpAny_bind (wpAny_pure (wpAny_bind (wpAny_bind (wpAny_loadPart hx (wpAny_bind (PySem.W.Looks.here (s := { s with toks := s.toks + 1 }) (PySem.W.looks_clsIn X hc) ?_))))))
  rw [hd']
  refine wpAny_pure (a := some dx) (wpAny_bind (wpAny_pure (wpAny_bind ?_)))
  refine wpAny_nsSet1 (s := { s with toks := s.toks + 1 }) I.ns fun h' hn2 hs2 => ?_
  obtain ⟨oD, esD, epD, hoD, hdD, hcD⟩ := hn2.count (PySem.Within.cons name v hw)
  refine wpAny_bind (wpAny_lookBehind hoD (by rw [hdD]; exact pastItsLine_dict (Nat.le_trans hcD (by rw [List.length_cons]; omega))) ?_)
  exact wpAny_pure (h _ ⟨(hs2.2 _ (Ne.symm I.ne)).trans I.obj, hn2, I.ne⟩ hs2)
theorem make_map {R : Result → Shared → Prop} {vs : List Value} {kw : List (Str × Value)} (X : K.In s.heap) (hm : PySem.W.makesIn K C = true)
    (hi : PySem.W.findIn K (.ref C) "__init__" = some (some (.ref f))) (hf : PySem.W.typeIn K (.ref f) = some (.type "function"))
    (h : codeAny (model prog w) (A.under (.builtin "type.__call__" ⟨.ref C :: vs, kw⟩)) (.call (.ref f) ⟨.ref (s.heap.objs.size + 1) :: vs, kw⟩) (PySem.W.InitBack (s.heap.objs.size + 1) R)
      { s with heap := (s.heap.push PySem.W.emptyDict).push (PySem.W.instObj C s.heap.objs.size) }) :
    codeAny (model prog w) A (.call (.ref C) ⟨vs, kw⟩) R s := by
  obtain ⟨hh, g, d, t, os⟩ := s
  exact PySem.W.make_core (PySem.W.makes_of X hm) (PySem.W.looks_findIn X hi) (fun self => PySem.W.bind_fn X self hf) (.inl rfl) h
theorem make_map0 {R : Result → Shared → Prop} (X : K.In s.heap) (hm : PySem.W.makesIn K C = true)
    (hi : PySem.W.findIn K (.ref C) "__init__" = some (some (.builtin "object.__init__")))
    (hb : ∀ self, PySem.W.Looks (model prog w) s.heap (bindSpecial (.builtin "object.__init__") self) (.builtin "object.__init__", [self]))
    (h : codeAny (model prog w) (A.under (.builtin "type.__call__" ⟨[.ref C], []⟩)) (.call (.builtin "object.__init__") ⟨[.ref (s.heap.objs.size + 1)], []⟩) (PySem.W.InitBack (s.heap.objs.size + 1) R)
      { s with heap := (s.heap.push PySem.W.emptyDict).push (PySem.W.instObj C s.heap.objs.size) }) :
    codeAny (model prog w) A (.call (.ref C) ⟨[], []⟩) R s := by
  obtain ⟨hh, g, d, t, os⟩ := s
  exact PySem.W.make_core (PySem.W.makes_of X hm) (PySem.W.looks_findIn X hi) hb (.inr ⟨rfl, rfl⟩) h
end
def putF (f : Str) (v : V) : List (Str × V) → List (Str × V)
  | [] => [(f, v)]
  | (g, x) :: r => if g = f then (g, v) :: r else (g, x) :: putF f v r
theorem lookup_putF (f g : Str) (v : V) : ∀ fs : List (Str × V), (putF f v fs).lookup g = if g = f then some v else fs.lookup g
  | [] => by
    show List.lookup g [(f, v)] = _
    by_cases h : g = f
    · have hb : (g == f) = true := beq_iff_eq.mpr h
      simp only [List.lookup, hb, if_pos h]
    · have hb : (g == f) = false := beq_eq_false_iff_ne.mpr h
      simp only [List.lookup, hb, if_neg h]
  | (k, x) :: r => by
    have ih := lookup_putF f g v r
    rw [show putF f v ((k, x) :: r) = (if k = f then (k, v) :: r else (k, x) :: putF f v r) from rfl]
    by_cases hk : k = f
    · rw [if_pos hk]
      by_cases h : g = k
      · have hb : (g == k) = true := beq_iff_eq.mpr h
        simp only [List.lookup, hb, if_pos (h.trans hk)]
      · have hb : (g == k) = false := beq_eq_false_iff_ne.mpr h
        simp only [List.lookup, hb, if_neg (fun e : g = f => h (e.trans hk.symm))]
    · rw [if_neg hk]
      by_cases h : g = k
      · have hb : (g == k) = true := beq_iff_eq.mpr h
        simp only [List.lookup, hb, if_neg (fun e : g = f => hk (h.symm.trans e))]
      · have hb : (g == k) = false := beq_eq_false_iff_ne.mpr h
        simp only [List.lookup, hb]
        exact ih
theorem keys_putF (f : Str) (v : V) : ∀ fs : List (Str × V), f ∈ (putF f v fs).map (·.1) ∧ ∀ g, g ∈ fs.map (·.1) → g ∈ (putF f v fs).map (·.1)
  | [] => ⟨by simp [putF], fun g h => by simp at h⟩
  | (k, x) :: r => by
    obtain ⟨i1, i2⟩ := keys_putF f v r
    rw [show putF f v ((k, x) :: r) = (if k = f then (k, v) :: r else (k, x) :: putF f v r) from rfl]
    by_cases hk : k = f
    · rw [if_pos hk]
      subst hk
      exact ⟨by simp, fun g h => by simpa using h⟩
    · rw [if_neg hk]
      refine ⟨?_, fun g h => ?_⟩
      · rw [List.map_cons]
        exact List.mem_cons_of_mem _ i1
      · rw [List.map_cons] at h ⊢
        rcases List.mem_cons.mp h with e | e
        · exact List.mem_cons.mpr (.inl e)
        · exact List.mem_cons_of_mem _ (i2 g e)
theorem length_putF (f : Str) (v : V) : ∀ fs : List (Str × V), (putF f v fs).length ≤ fs.length + 1
  | [] => by simp [putF]
  | (k, x) :: r => by
    have ih := length_putF f v r
    rw [show putF f v ((k, x) :: r) = (if k = f then (k, v) :: r else (k, x) :: putF f v r) from rfl]
    by_cases hk : k = f
    · rw [if_pos hk, List.length_cons, List.length_cons]; omega
    · rw [if_neg hk, List.length_cons, List.length_cons]; omega
theorem RelO.some_of {v : V} {o : Option Value} (r : RelO (some v) o) : ∃ u, o = some u ∧ RelV v u := by
  cases o with
  | none => exact (show False from r).elim
  | some u => exact ⟨u, rfl, r⟩
theorem RelO.none_of {o : Option Value} (r : RelO none o) : o = none := by
  cases o with
  | none => rfl
  | some u => exact (show False from r).elim
theorem handed_of {v : V} {u : Value} (r : RelV v u) : PySem.W.handedIn u = true := by
  cases v with
  | non => cases (show u = Value.none from r); rfl
  | bl b => cases (show u = Value.bool b from r); rfl
  | int i => obtain ⟨t, e⟩ := (show ∃ t, u = Value.int i t from r); cases e; rfl
  | str x => obtain ⟨t, e⟩ := (show ∃ t, u = Value.str x t from r); cases e; rfl
  | byt b => obtain ⟨t, e⟩ := (show ∃ t, u = Value.bytes b t from r); cases e; rfl
  | flt b => obtain ⟨t, e⟩ := (show ∃ t, u = Value.float b t from r); cases e; rfl
  | ref a => cases (show u = Value.ref a from r); rfl
  | ty n => cases (show u = Value.type n from r); rfl
section
variable {P : Program} {w : World} {H H' : Hp} {h h' : Heap} {a C dx : Addr} {fs fs' : List (Str × V)}
theorem ins_get (hok : HOk P w H h) (e : H a = some (.ins C dx fs)) : ∃ mA, ObjM h a dx C mA ∧ (∀ f, RelO (fs.lookup f) (mA f)) ∧ PySem.Within mA (fs.map (·.1)) ∧ fs.length ≤ 1000 ∧ H dx = some (.own a) := by
  obtain ⟨d, z, ne, ob, mA, n, r, q⟩ := (show ObjOk P w H h a (.ins C dx fs) from hok a _ e)
  exact ⟨mA, ⟨ob, n, ne⟩, r, q, z, d⟩
end
structure Cls (K : PySem.W.Frag) (C : Addr) : Prop where
  pg : PySem.W.plainGet K C Str.empty = true
  hd : PySem.W.hasDictIn K C = true
  po : PySem.W.plainOver K C = true
  sa : PySem.W.findIn K (.ref C) "__setattr__" = some (some (.builtin "object.__setattr__"))
theorem Cls.get {K : PySem.W.Frag} {C : Addr} (c : Cls K C) (f : Str) : PySem.W.plainGet K C f = true := c.pg
def NoAttr (K : PySem.W.Frag) (C : Addr) (f : Str) : Prop := PySem.W.findIn K (.ref C) f = some none
theorem NoAttr.taker {K : PySem.W.Frag} {C : Addr} {f : Str} (n : NoAttr K C f) : PySem.W.takerIn K C f = some none := by
  unfold PySem.W.takerIn
  rw [show PySem.W.findIn K (.ref C) f = some none from n]
  rfl
structure Con (K : PySem.W.Frag) (C : Addr) (f : Str) (v : V) (u : Value) : Prop where
  at_ : PySem.W.findIn K (.ref C) f = some (some u)
  rel : RelV v u
  get : PySem.W.specialIn K u "__get__" = some none
  cp : PySem.W.copiedNames.contains f = false
structure Meth (K : PySem.W.Frag) (C : Addr) (m : Str) (f : Addr) : Prop where
  at_ : PySem.W.findIn K (.ref C) m = some (some (.ref f))
  fn : PySem.W.isFn K (.ref f) = true
  kp : PySem.W.keepIn K (.ref f) = true
section
variable {X : Cx} {pins : List (Addr × Obj)} {σ : St} {H : Hp} {s : Shared} {a C dx : Addr} {fs : List (Str × V)} {f : Str} {v : V} {A : Around} {E : Value → Shared → Prop}
theorem getattr_ok {b : Bool} {Q : Value → Shared → Prop} (I : Inv X pins σ H s) (e : H a = some (.ins C dx fs)) (c : Cls X.K C) (n : NoAttr X.K C f) (l : fs.lookup f = some v)
    (h : ∀ u s', Inv X pins σ H s' → RelV v u → Q u s') : wpAny (model X.prog X.w) A (getAttr (.ref a) f b) Q E s := by
  obtain ⟨mA, O, r, _, _, _⟩ := ins_get I.hok e
  obtain ⟨u, hu, ru⟩ := RelO.some_of (v := v) (o := mA f) (by rw [← l]; exact r f)
  exact get_map I.kIn O (c.get f) c.hd n hu (handed_of ru) (h u _ (I.tok _) ru)
theorem getmeth_ok {m : Str} {g : Addr} {pl : Sem Bool} {Q : Value × List Value → Shared → Prop} (I : Inv X pins σ H s) (e : H a = some (.ins C dx fs)) (c : Cls X.K C) (k : Meth X.K C m g) (l : fs.lookup m = none)
    (h : Q (.ref g, [.ref a]) s) : wpAny (model X.prog X.w) A (getMethod (.ref a) m pl) Q E s := by
  obtain ⟨mA, O, r, _, _, _⟩ := ins_get I.hok e
  have hn : mA m = none := RelO.none_of (by rw [← l]; exact r m)
  exact get_meth I.kIn O (c.get m) k.at_ k.fn hn h
theorem setattr_ok {y : V} {u : Value} {Q : Unit → Shared → Prop} (I : Inv X pins σ H s) (e : H a = some (.ins C dx fs)) (c : Cls X.K C) (n : NoAttr X.K C f) (hl : fs.length < 1000) (ry : RelV y u)
    (h : ∀ s', Inv X pins σ (upd H a (.ins C dx (putF f y fs))) s' → Q () s') : wpAny (model X.prog X.w) A (setAttr (.ref a) f u) Q E s := by
  obtain ⟨mA, O, r, wi, _, ho⟩ := ins_get I.hok e
  have hz : (fs.map (·.1)).length ≤ sizeLine := by rw [List.length_map, sizeLine_eq]; omega
  refine set_map I.kIn O c.sa c.po n.taker c.hd wi hz fun h' O' sb => h _ ?_
  have hd : ∃ o, h'.get? dx = some o := let ⟨o, _, _, e', _⟩ := O'.ns; ⟨o, e'⟩
  refine I.write (x := a) (e := dx) (by rw [e]; exact True.intro) (.inr ho) (fun b q hb z => (sb.2 b hb).trans z) hd ?_
  refine ⟨by rw [upd_ne O.ne]; exact ho, ?_, O.ne, O'.obj, _, O'.ns, fun g => ?_, fun g hg => ?_⟩
  · have := length_putF f y fs; omega
  · show RelO ((putF f y fs).lookup g) (if g = f then some u else mA g)
    rw [lookup_putF]
    by_cases q : g = f
    · rw [if_pos q, if_pos q]; exact ry
    · rw [if_neg q, if_neg q]; exact r g
  · by_cases q : g = f
    · rw [q]; exact (keys_putF f y fs).1
    · refine (keys_putF f y fs).2 g (wi g fun z => hg ?_)
      show (if g = f then some u else mA g) = none
      rw [if_neg q]; exact z
theorem Inv.made (I : Inv X pins σ H s) : Inv X pins σ (upd (upd H s.heap.objs.size (.own (s.heap.objs.size + 1))) (s.heap.objs.size + 1) (.ins C s.heap.objs.size []))
    { s with heap := (s.heap.push PySem.W.emptyDict).push (PySem.W.instObj C s.heap.objs.size) } := by
  have e1 : (s.heap.push PySem.W.emptyDict).get? s.heap.objs.size = some PySem.W.emptyDict := Heap.get?_push_size s.heap rfl
  have e2 : ((s.heap.push PySem.W.emptyDict).push (PySem.W.instObj C s.heap.objs.size)).get? (s.heap.objs.size + 1) = some (PySem.W.instObj C s.heap.objs.size) := by
    have := Heap.get?_push_size (s.heap.push PySem.W.emptyDict) (o := PySem.W.instObj C s.heap.objs.size) rfl
    rwa [Heap.size_push] at this
  have e3 : (s.heap.push PySem.W.emptyDict).Ns s.heap.objs.size (fun _ => none) := ⟨PySem.W.emptyDict, #[], _, e1, rfl, (fun e he => absurd he (by simp)), fun _ => rfl⟩
  have I1 := I.laid (a := s.heap.objs.size) (o := .own (s.heap.objs.size + 1)) (h' := s.heap.push PySem.W.emptyDict) (t' := s.toks) (fun b u q => Heap.get?_push_of_some _ q) (Nat.le_refl _) ⟨_, e1⟩
  refine I1.laid (a := s.heap.objs.size + 1) (o := .ins C s.heap.objs.size []) (t' := s.toks) (fun b u q => Heap.get?_push_of_some _ q) (Nat.le_of_eq (Heap.size_push _ _)) ?_
  have ne : s.heap.objs.size ≠ s.heap.objs.size + 1 := Nat.ne_of_lt (Nat.lt_succ_self _)
  refine ⟨by rw [upd_ne ne, upd_same], Nat.zero_le _, ne, e2, fun _ => none, (Heap.Ns1.of_empty e3).at fun o q => Heap.get?_push_of_some _ q, fun _ => True.intro, fun y hy => absurd rfl hy⟩
theorem attr_of {prog : Program} {w : World} {env : Env} {e : Expr} {f : Str} {pos : Pos} {s : Shared} {Q : Value → Shared → Prop} (hb : attributeBase e f env (eval e env) = eval e env)
    (h : wpAny (model prog w) A (eval e env) (fun o s₁ => wpAny (model prog w) A (getAttr o f true) Q E s₁) E s) : wpAny (model prog w) A (eval (.Attribute e f pos) env) Q E s :=
  Attribute_any_ h (by rw [arm_eval_Attribute, hb])
end
def tFld (K : PySem.W.Frag) (ta : TE) (f : Str) : TE := fun σ H Q => ta σ H fun x H1 => ∃ a C dx fs v, x = .ref a ∧ H1 a = some (.ins C dx fs) ∧ Cls K C ∧ NoAttr K C f ∧ fs.lookup f = some v ∧ Q v H1
def tCon (K : PySem.W.Frag) (ta : TE) (f : Str) : TE := fun σ H Q => ta σ H fun x H1 => ∃ a C dx fs v u, x = .ref a ∧ H1 a = some (.ins C dx fs) ∧ Cls K C ∧ Con K C f v u ∧ fs.lookup f = none ∧ Q v H1
def sFld (K : PySem.W.Frag) (ta tv : TE) (f : Str) : TS := fun D σ H => tv σ H fun y H1 => ta σ H1 fun x H2 => ∃ a C dx fs, x = .ref a ∧ H2 a = some (.ins C dx fs) ∧ Cls K C ∧ NoAttr K C f ∧ fs.length < 1000 ∧
  D.nx σ (upd H2 a (.ins C dx (putF f y fs)))
def InOp (X : Cx) (op : Operator) (rd : V → V → Hp → VK → Prop) : Prop :=
  ∀ (pins : List (Addr × Obj)) (s : Shared) (σ : St) (H : Hp) (x y : V) (u v : Value) (Q : VK), Inv X pins σ H s → RelV x u → RelV y v → rd x y H Q → wpAny (model X.prog X.w) X.A (inplaceOp op u v) (EP X pins σ Q) X.xe s
def sFldAug (K : PySem.W.Frag) (ta tv : TE) (rd : V → V → Hp → VK → Prop) (f : Str) : TS := fun D σ H => ta σ H fun x H1 => ∃ a C dx fs v, x = .ref a ∧ H1 a = some (.ins C dx fs) ∧ Cls K C ∧ NoAttr K C f ∧ fs.lookup f = some v ∧
  tv σ H1 fun y H2 => rd v y H2 fun z H3 => ∃ dx' fs', H3 a = some (.ins C dx' fs') ∧ fs'.length < 1000 ∧ D.nx σ (upd H3 a (.ins C dx' (putF f z fs')))
section
variable {X : Cx} {o e value : Expr} {f : Str} {pos pos' tpos : Pos} {ta tv : TE}
theorem pe_fld (he : PE X e ta) (hb : attributeBase e f X.env (eval e X.env) = eval e X.env) : PE X (.Attribute e f pos) (tFld X.K ta f) := by
  intro pins s σ H Q I h
  refine attr_of hb (thn (he pins s σ H _ I h) fun u s1 ⟨x, H1, I1, rx, a, C, dx, fs, v, ex, ea, c, n, l, q⟩ => ?_)
  subst ex
  obtain rfl : u = Value.ref a := rx
  exact getattr_ok I1 ea c n l fun u' s2 I2 ru => ⟨v, H1, I2, ru, q⟩
theorem ps_fld (ha : PE X o ta) (hv : PE X value tv) (hs : swapsWith value (some (.Attribute o f pos')) pos.line X.env = pure false) : PS X (.Assign [.Attribute o f pos'] value pos) (sFld X.K ta tv f) := by
  intro pins s σ H D I h
  refine plainObj_wpAny_Assign_Attribute (thn (hv pins s σ H _ I h) fun u s1 ⟨y, H1, I1, ry, q⟩ => thn (ha pins s1 σ H1 _ I1 q) fun ov s2 ⟨x, H2, I2, rx, a, C, dx, fs, ex, ea, c, n, l, q2⟩ => ?_) hs
  subst ex
  obtain rfl : ov = Value.ref a := rx
  exact setattr_ok I2 ea c n l ry fun s3 I3 => ⟨σ, _, I3, q2⟩
def rAdd : V → V → Hp → VK → Prop := fun x y H Q => ∃ i j, x = .int i ∧ y = .int j ∧ Q (.int (i + j)) H
def rSub : V → V → Hp → VK → Prop := fun x y H Q => ∃ i j, x = .int i ∧ y = .int j ∧ Q (.int (i - j)) H
end
section
variable {X : Cx} {pins : List (Addr × Obj)} {σ : St} {H : Hp} {s : Shared} {A : Around} {E : Value → Shared → Prop} {Q : Value → Shared → Prop} {c : Value} {b : Bool}
inductive TyOf (K : PySem.W.Frag) (H : Hp) : V → Value → Prop where
  | non : TyOf K H .non (.type "NoneType")
  | bl (x : Bool) : TyOf K H (.bl x) (.type "bool")
  | int (i : Int) : TyOf K H (.int i) (.type "int")
  | str (x : Str) : TyOf K H (.str x) (.type "str")
  | flt (x : UInt64) : TyOf K H (.flt x) (.type "float")
  | lst {a : Addr} {xs : List V} (e : H a = some (.lst xs)) : TyOf K H (.ref a) (.type "list")
  | frz {a : Addr} {o : Obj} {xs : List V} (e : H a = some (.frz o (.lst xs))) : TyOf K H (.ref a) (.type "list")
  | tup {a : Addr} {xs : List V} (e : H a = some (.tup xs)) : TyOf K H (.ref a) (.type "tuple")
  | dK {a : Addr} {kvs : List (Key × V)} (e : H a = some (.dK kvs)) : TyOf K H (.ref a) (.type "dict")
  | dT {a : Addr} {kvs : List (List Key × V)} (e : H a = some (.dT kvs)) : TyOf K H (.ref a) (.type "dict")
  | ins {a C dx : Addr} {fs : List (Str × V)} (e : H a = some (.ins C dx fs)) (cl : Cls K C) (ha : PySem.W.findIn K (.ref C) "__class__" = some (some (.builtin "object.__class__")))
      (hn : PySem.W.specialIn K (.builtin "object.__class__") "__get__" = some (some (.builtin "getset_descriptor.__get__"))) (htk : PySem.W.takesIn K (.builtin "object.__class__") = some true)
      (hm : PySem.W.mroIn K C (.type "object") = some true) : TyOf K H (.ref a) (.ref C)
theorem isinst_ok {x : V} {u t : Value} (I : Inv X pins σ H s) (rx : RelV x u) (ty : TyOf X.K H x t) (e : PySem.W.kitOne X.K t c = some b) (h : ∀ tk, Q (.bool b) { s with toks := tk }) :
    wpAny (model X.prog X.w) A (call (.builtin "isinstance") [u, c]) Q E s := by
  cases ty with
  | non => cases (show u = Value.none from rx); exact PySem.W.kia_one PySem.W.kitx_none I.kIn True.intro e (fun z => nomatch z) h
  | bl y => cases (show u = Value.bool y from rx); exact PySem.W.kia_one PySem.W.kitx_bool I.kIn True.intro e (fun z => nomatch z) h
  | int i => obtain ⟨t, q⟩ := (show ∃ t, u = Value.int i t from rx); cases q; exact PySem.W.kia_one PySem.W.kitx_int I.kIn True.intro e (fun z => nomatch z) h
  | str y => obtain ⟨t, q⟩ := (show ∃ t, u = Value.str y t from rx); cases q; exact PySem.W.kia_one PySem.W.kitx_str I.kIn True.intro e (fun z => nomatch z) h
  | flt y => obtain ⟨t, q⟩ := (show ∃ t, u = Value.float y t from rx); cases q; exact PySem.W.kia_one PySem.W.kitx_float I.kIn True.intro e (fun z => nomatch z) h
  | @lst a xs ea =>
    cases (show u = Value.ref a from rx)
    obtain ⟨_, _, n, _, h1⟩ := (show ObjOk X.prog X.w H s.heap a (.lst xs) from I.hok a _ ea)
    exact PySem.W.kia_one PySem.W.kitx_list I.kIn ⟨_, h1, rfl⟩ e (fun z => nomatch z) h
  | @frz a ob xs ea =>
    cases (show u = Value.ref a from rx)
    obtain ⟨_, _, _, n, _, h1⟩ := (show ObjOk X.prog X.w H s.heap a (.frz ob (.lst xs)) from I.hok a _ ea)
    exact PySem.W.kia_one PySem.W.kitx_list I.kIn ⟨_, h1, rfl⟩ e (fun z => nomatch z) h
  | @tup a xs ea =>
    cases (show u = Value.ref a from rx)
    obtain ⟨_, _, _, p⟩ := (show ObjOk X.prog X.w H s.heap a (.tup xs) from I.hok a _ ea)
    obtain ⟨o, h1, h2, _⟩ := p
    exact PySem.W.kia_one PySem.W.kitx_tuple I.kIn ⟨o, h1, h2⟩ e (fun z => nomatch z) h
  | @dK a kvs ea =>
    cases (show u = Value.ref a from rx)
    obtain ⟨_, _, vs, _, p⟩ := (show ObjOk X.prog X.w H s.heap a (.dK kvs) from I.hok a _ ea)
    obtain ⟨o, es, ep, h1, h2, _⟩ := p
    exact PySem.W.kia_one PySem.W.kitx_dict I.kIn ⟨o, h1, h2.1⟩ e (fun z => nomatch z) h
  | @dT a kvs ea =>
    cases (show u = Value.ref a from rx)
    obtain ⟨_, _, xs, _, o, es, ep, h1, h2, _⟩ := (show ObjOk X.prog X.w H s.heap a (.dT kvs) from I.hok a _ ea)
    exact PySem.W.kia_one PySem.W.kitx_dict I.kIn ⟨o, h1, h2.1⟩ e (fun z => nomatch z) h
  | @ins a C dx fs ea cl ha hn htk hm =>
    cases (show u = Value.ref a from rx)
    obtain ⟨mA, O, _⟩ := ins_get I.hok ea
    obtain ⟨od, J, _⟩ := O.look
    exact PySem.W.kia_one (PySem.W.kitx_own (cl.get _) cl.hd ha hn htk hm) I.kIn J e (fun z => nomatch z) h
end
end L2
namespace L2
open PySem PySem.Spec PyProof.Rows
structure Room (k : Nat) (A : Around) : Prop where
  hd : A.handled = none
  dp : A.depth + 3 * k + 5 < recursionLimit
  un : A.units + 16 * k + 200 < cLine
theorem Room.mono {j k : Nat} {A : Around} (r : Room k A) (h : j ≤ k) : Room j A := ⟨r.hd, by have := r.dp; omega, by have := r.un; omega⟩
theorem Room.deeper {k : Nat} {A : Around} (r : Room (k + 1) A) (env : Env) : Room k (A.deeper env) :=
  ⟨r.hd, by have := r.dp; show A.depth + 1 + 3 * k + 5 < _; omega, by have := r.un; show A.units + 3 + 16 * k + 200 < _; omega⟩
theorem Room.in1 {k : Nat} {A : Around} (r : Room (k + 1) A) : Room k A.in1 :=
  ⟨r.hd, by have := r.dp; show A.depth + 3 * k + 5 < _; omega, by have := r.un; show A.units + 1 + 16 * k + 200 < _; omega⟩
theorem make_depth {A : Around} {C : Addr} {us : List Value} {kw : List (Str × Value)} : (A.under (.builtin "type.__call__" ⟨.ref C :: us, kw⟩)).depth = A.depth + 1 := by
  first | rfl | simp [Around.under, Code.weight, Code.isCreation, Code.isGuard, Code.isCaller, Code.frames, Code.isFrame, guardIds]
theorem make_units {A : Around} {C : Addr} {us : List Value} {kw : List (Str × Value)} : (A.under (.builtin "type.__call__" ⟨.ref C :: us, kw⟩)).units = A.units + 1 := by
  first | rfl | simp [Around.under, Code.cUnits, Code.frames, Code.isFrame]
theorem Room.make {k : Nat} {A : Around} (r : Room (k + 1) A) (C : Addr) (us : List Value) (kw : List (Str × Value)) : Room k (A.under (.builtin "type.__call__" ⟨.ref C :: us, kw⟩)) :=
  ⟨r.hd, by have := r.dp; rw [make_depth]; omega, by have := r.un; rw [make_units]; omega⟩
theorem Room.depth {k : Nat} {A : Around} (r : Room k A) : A.depth < recursionLimit := by have := r.dp; omega
theorem Room.units {k : Nat} {A : Around} (r : Room k A) : A.units + 64 < cLine := by have := r.un; omega
def tNil : TA := fun _ H Q => Q [] H
def tCons (ta : TE) (tr : TA) : TA := fun σ H Q => ta σ H fun x H1 => tr σ H1 fun xs H2 => Q (x :: xs) H2
section
variable {X : Cx} {e : Expr} {es : List Expr} {te : TE} {t : TA} {pos : Pos}
theorem pa_nil : PA X [] tNil := fun _ _ _ _ H Q I h => Calls.spliced_nil ⟨[], H, I, .nil, h⟩
theorem pa_cons (ha : PE X e te) (hr : PA X es t) (hs : starEach (e :: es) X.env = (false, eval e X.env) :: starEach es X.env := by rfl) : PA X (e :: es) (tCons te t) := by
  intro pos pins s σ H Q I h
  rw [hs]
  show wpAny _ _ (spliced ((false, eval e X.env) :: backTo pos (starEach es X.env))) _ _ s
  refine Calls.spliced_cons (thn (ha pins s σ H _ I h) fun u s1 ⟨x, H1, I1, r1, q1⟩ => ?_)
  exact thn (hr pos pins s1 σ H1 _ I1 q1) fun us s2 ⟨xs, H2, I2, r2, q2⟩ => ⟨x :: xs, H2, I2, .cons r1 r2, q2⟩
def tTup (t : TA) : TE := fun σ H Q => t σ H fun xs H1 => xs.length ≤ sizeLine ∧ ∀ p, H1 p = none → Q (.ref p) (upd H1 p (.tup xs))
def tLst (t : TA) : TE := fun σ H Q => t σ H fun xs H1 => xs.length ≤ sizeLine ∧ ∀ p, H1 p = none → Q (.ref p) (upd H1 p (.lst xs))
theorem pe_tup {x1} (h : PA X es t) : PE X (.Tuple es x1 pos) (tTup t) := by
  intro pins s σ H Q I hq
  refine wpAny_Tuple_spliced (thn (h pos pins s σ H _ I hq) fun us s1 ⟨xs, H1, I1, r, z, q⟩ => ⟨by rw [← r.length]; exact z, ?_⟩)
  have hf : H1 s1.heap.objs.size = none := I1.hok.fresh (Nat.le_refl _)
  refine ⟨.ref s1.heap.objs.size, upd H1 s1.heap.objs.size (.tup xs), I1.laid (t' := s1.toks) (fun b u e => Heap.get?_push_of_some _ e) (Nat.le_refl _) ?_, rfl, q _ hf⟩
  exact ⟨z, us, r, ⟨_, Heap.get?_push_size _ rfl, rfl, _, rfl⟩⟩
theorem pe_lst (h : PA X es t) : PE X (.List es pos) (tLst t) := by
  intro pins s σ H Q I hq
  refine wpAny_List_spliced (thn (h pos pins s σ H _ I hq) fun us s1 ⟨xs, H1, I1, r, z, q⟩ => ⟨by rw [← r.length]; exact z, ?_⟩)
  have hf : H1 s1.heap.objs.size = none := I1.hok.fresh (Nat.le_refl _)
  refine ⟨.ref s1.heap.objs.size, upd H1 s1.heap.objs.size (.lst xs), I1.laid (t' := s1.toks) (fun b u e => Heap.get?_push_of_some _ e) (Nat.le_refl _) ?_, rfl, q _ hf⟩
  exact ⟨z, us, 0, r, Heap.get?_push_size _ rfl⟩
end
abbrev Sp := List V → Hp → VK → XK → Prop
abbrev CXT := List Env → Hp → Shared → XK → Value → Shared → Prop
structure Env0 (P : Program) (w : World) (K : PySem.W.Frag) (mg : Str → Option Value) (base : Heap) (A : Around) (outer : List Env) (s : Shared) (H : Hp) : Prop where
  frames : A.frames = some outer
  mod : Mod K mg base
  bs : ∀ b o, base.get? b = some o → s.heap.get? b = some o ∧ H b = none
  bsz : base.objs.size ≤ s.heap.objs.size
  funs : s.heap.FunFrames base outer
  frf : ∀ b ∈ frs outer, H b = none
  hok : HOk P w H s.heap
  bare : AllBare s.gens
def CE (outer : List Env) (P : Program) (w : World) (H : Hp) (s : Shared) (Q : VK) (u : Value) (s' : Shared) : Prop :=
  ∃ v H', s'.os = s.os ∧ AllBare s'.gens ∧ Un (frs outer) [] H H' s.heap s'.heap ∧ HOk P w H' s'.heap ∧ RelV v u ∧ Q v H'
def CR (CX : CXT) (outer : List Env) (P : Program) (w : World) (H : Hp) (s : Shared) (Q : VK) (E : XK) (r : Result) (s' : Shared) : Prop :=
  match r with
  | .ok (.ret u) => CE outer P w H s Q u s'
  | .ok _ => False
  | .error e => CX outer H s E e s'
structure FnOk (P : Program) (w : World) (K : PySem.W.Frag) (mg : Str → Option Value) (base : Heap) (CX : CXT) (k : Nat) (f : Addr) (fd : FuncData) (ps : List Str) (sp : Sp) : Prop where
  len : ∀ vs H Q E, sp vs H Q E → vs.length = ps.length
  run : ∀ (A : Around) (outer : List Env) (s : Shared) (H : Hp) (args : Args) (us : List Value) (vs : List V) (Q : VK) (E : XK), Room k A → Env0 P w K mg base A outer s H → BindsTo s fd args (ps.zip us) → Vals vs us → sp vs H Q E →
    codeAny (model P w) A (.call (.ref f) args) (CR CX outer P w H s Q E) s
theorem FnOk.mono {P : Program} {w : World} {K : PySem.W.Frag} {mg : Str → Option Value} {base : Heap} {CX : CXT} {j k : Nat} {f : Addr} {fd : FuncData} {ps : List Str} {sp : Sp} (F : FnOk P w K mg base CX j f fd ps sp) (h : j ≤ k) :
    FnOk P w K mg base CX k f fd ps sp := ⟨F.len, fun A outer s H args us vs Q E hr => F.run A outer s H args us vs Q E (hr.mono h)⟩
theorem FnOk.imp {P : Program} {w : World} {K : PySem.W.Frag} {mg : Str → Option Value} {base : Heap} {CX : CXT} {k : Nat} {f : Addr} {fd : FuncData} {ps : List Str} {sp sp' : Sp} (F : FnOk P w K mg base CX k f fd ps sp)
    (h : ∀ vs H Q E, sp' vs H Q E → sp vs H Q E) : FnOk P w K mg base CX k f fd ps sp' :=
  ⟨fun vs H Q E q => F.len vs H Q E (h _ _ _ _ q), fun A outer s H args us vs Q E hr he hb hv hs => F.run A outer s H args us vs Q E hr he hb hv (h _ _ _ _ hs)⟩
theorem Env0.make {P : Program} {w : World} {K : PySem.W.Frag} {mg : Str → Option Value} {base : Heap} {A : Around} {outer : List Env} {s : Shared} {H : Hp} (e : Env0 P w K mg base A outer s H) (C : Addr) (us : List Value) (kw : List (Str × Value)) :
    Env0 P w K mg base (A.under (.builtin "type.__call__" ⟨.ref C :: us, kw⟩)) outer s H := ⟨by first | exact e.frames | (simpa [Around.under, Code.envs, Code.isFrame, pushEnvs] using e.frames), e.mod, e.bs, e.bsz, e.funs, e.frf, e.hok, e.bare⟩
theorem Env0.in1 {P : Program} {w : World} {K : PySem.W.Frag} {mg : Str → Option Value} {base : Heap} {A : Around} {outer : List Env} {s : Shared} {H : Hp} (e : Env0 P w K mg base A outer s H) :
    Env0 P w K mg base A.in1 outer s H := ⟨e.frames, e.mod, e.bs, e.bsz, e.funs, e.frf, e.hok, e.bare⟩
section
variable {X : Cx} {pins : List (Addr × Obj)} {σ : St} {H : Hp} {s s' : Shared}
theorem Inv.env0 (I : Inv X pins σ H s) : Env0 X.prog X.w X.K X.mg X.base X.A X.stack s H :=
  ⟨I.ok.frames, I.ok.mod, I.bs, Nat.le_trans I.ok.bsz I.sz, I.stack, I.stkFree, I.hok, I.bare⟩
theorem Inv.after {Q : VK} {u : Value} (I : Inv X pins σ H s) (h : CE X.stack X.prog X.w H s Q u s') : EP X pins σ Q u s' := by
  obtain ⟨v, H', os, bare, un, hok, r, q⟩ := h
  obtain ⟨hh, g, d, t, os'⟩ := s'
  obtain rfl : os' = s.os := os
  exact ⟨v, H', I.call (h' := hh) (g' := g) (d' := d) (t' := t) (ch := []) un hok bare (fun b z => absurd z (by simp)), r, q⟩
end
def tCall (sp : Sp) (dvs : List V) (E : XK) (t : TA) : TE := fun σ H Q => t σ H fun vs H1 => sp (vs ++ dvs) H1 Q E
def tMeth (C : Addr) (m : Str) (sp : Sp) (dvs : List V) (E : XK) (ta : TE) (t : TA) : TE := fun σ H Q => ta σ H fun x H1 => ∃ a dx fs, x = .ref a ∧ H1 a = some (.ins C dx fs) ∧ fs.lookup m = none ∧
  t σ H1 fun vs H2 => sp (x :: (vs ++ dvs)) H2 Q E
def tMake (C : Addr) (sp : Sp) (dvs : List V) (E : XK) (t : TA) : TE := fun σ H Q => t σ H fun vs H1 => ∀ x dx, H1 x = none → H1 dx = none → dx ≠ x →
  sp (.ref x :: (vs ++ dvs)) (upd (upd H1 dx (.own x)) x (.ins C dx [])) (fun v H2 => v = .non ∧ Q (.ref x) H2) E
def Binds (K : PySem.W.Frag) (fd : FuncData) (ps : List Str) (ds : List Value) : Prop :=
  ∀ (s : Shared) (us : List Value), K.In s.heap → (us ++ ds).length = ps.length → BindsTo s fd ⟨us, []⟩ (ps.zip (us ++ ds))
theorem Binds.all {K : PySem.W.Frag} {fd : FuncData} {ps : List Str} (h : ∀ us : List Value, us.length = ps.length → bindArgs fd ⟨us, []⟩ = pure (ps.zip us)) : Binds K fd ps [] := fun s us _ hl => by
  rw [List.append_nil] at hl ⊢
  exact .of_eq (h us hl)
def Passes (CX : CXT) (X : Cx) (E : XK) : Prop := ∀ (pins : List (Addr × Obj)) (σ : St) (H : Hp) (s : Shared) (e : Value) (s' : Shared), Inv X pins σ H s → CX X.stack H s E e s' → X.xe e s'
section
variable {X : Cx} {CX : CXT} {k : Nat} {f C : Addr} {fd : FuncData} {ps : List Str} {sp : Sp} {dvs : List V} {ds : List Value} {E : XK} {x m : Str} {p pos apos : Pos} {e o : Expr} {es : List Expr} {ta : TE} {t : TA}
theorem run_fn {pins : List (Addr × Obj)} {σ : St} {H : Hp} {s : Shared} {Q : VK} {us : List Value} {vs : List V} (F : FnOk X.prog X.w X.K X.mg X.base CX k f fd ps sp) (hr : Room k X.A) (hb : Binds X.K fd ps ds) (hd : Vals dvs ds) (hx : Passes CX X E)
    (I : Inv X pins σ H s) (r : Vals vs us) (h : sp (vs ++ dvs) H Q E) : wpAny (model X.prog X.w) X.A (call (.ref f) us) (EP X pins σ Q) X.xe s := by
  have r2 : Vals (vs ++ dvs) (us ++ ds) := r.append hd
  have hl : (us ++ ds).length = ps.length := by rw [← r2.length]; exact F.len _ _ _ _ h
  refine wpAny_call (codeAny_mono (F.run X.A X.stack s H ⟨us, []⟩ (us ++ ds) (vs ++ dvs) Q E hr I.env0 (hb s us I.kIn hl) r2 h) fun r s' hq => ?_)
  cases r with
  | error e => exact hx pins σ H s e s' I hq
  | ok fl =>
    cases fl with
    | ret u => exact I.after hq
    | next => exact False.elim hq
    | brk => exact False.elim hq
    | cont => exact False.elim hq
theorem pe_call (F : FnOk X.prog X.w X.K X.mg X.base CX k f fd ps sp) (hr : Room k X.A) (hg : Gl X x) (hm : X.mg x = some (.ref f)) (hk : PySem.W.keepIn X.K (.ref f) = true) (hb : Binds X.K fd ps ds) (hd : Vals dvs ds) (hx : Passes CX X E)
    (ha : PA X (e :: es) t) (hdb : (x == ("__debug__" : Str)) = false := by decide) (he : starEach (e :: es) X.env = (false, eval e X.env) :: starEach es X.env := by rfl) (hpl : (backTo pos (starEach es X.env)).any (·.1) = false := by rfl) :
    PE X (.Call (.Name x p) (e :: es) [] pos) (tCall sp dvs E t) := by
  intro pins s σ H Q I h
  refine wpAny_Call_Name_kw (ld_glob I hg hm ?_ hdb)
  refine PySem.W.callWith_K (h₀ := X.base) I.ok.mod.kin hk (thn (ha pos pins s σ H _ I h) fun us s1 ⟨vs, H1, I1, r, q⟩ => ⟨I1.kIn, ?_⟩) he hpl
  exact run_fn F hr hb hd hx I1 r q
structure Mk (K : PySem.W.Frag) (C f : Addr) : Prop where
  makes : PySem.W.makesIn K C = true
  init : PySem.W.findIn K (.ref C) "__init__" = some (some (.ref f))
  fn : PySem.W.isFn K (.ref f) = true
  kp : PySem.W.keepIn K (.ref C) = true
theorem run_make {pins : List (Addr × Obj)} {σ : St} {H : Hp} {s : Shared} {Q : VK} {us : List Value} {vs : List V} (M : Mk X.K C f) (F : FnOk X.prog X.w X.K X.mg X.base CX k f fd ps sp) (hr : Room (k + 1) X.A) (hb : Binds X.K fd ps ds) (hd : Vals dvs ds)
    (hx : Passes CX X E) (I : Inv X pins σ H s) (r : Vals vs us)
    (h : ∀ x dx, H x = none → H dx = none → dx ≠ x → sp (.ref x :: (vs ++ dvs)) (upd (upd H dx (.own x)) x (.ins C dx [])) (fun v H2 => v = .non ∧ Q (.ref x) H2) E) :
    wpAny (model X.prog X.w) X.A (call (.ref C) us) (EP X pins σ Q) X.xe s := by
  have hq := h (s.heap.objs.size + 1) s.heap.objs.size (I.hok.fresh (Nat.le_succ _)) (I.hok.fresh (Nat.le_refl _)) (Nat.ne_of_lt (Nat.lt_succ_self _))
  have I2 := Inv.made (C := C) I
  have r2 : Vals (V.ref (s.heap.objs.size + 1) :: (vs ++ dvs)) (Value.ref (s.heap.objs.size + 1) :: (us ++ ds)) := .cons rfl (r.append hd)
  have hl : (Value.ref (s.heap.objs.size + 1) :: us ++ ds).length = ps.length := by
    have e := r2.length
    rw [F.len _ _ _ _ hq] at e
    exact e.symm
  refine wpAny_call (make_map (f := f) I.kIn M.makes M.init (beq_iff_eq.mp M.fn) (codeAny_mono (F.run _ X.stack _ _ ⟨Value.ref (s.heap.objs.size + 1) :: us, []⟩ (Value.ref (s.heap.objs.size + 1) :: (us ++ ds)) _ _ E (hr.make C us [])
    (I2.env0.make C us []) (hb _ (Value.ref (s.heap.objs.size + 1) :: us) I2.kIn hl) r2 hq) fun r s' hq' => ?_))
  cases r with
  | error e => exact hx pins σ _ _ e s' I2 hq'
  | ok fl =>
    cases fl with
    | ret u =>
      obtain ⟨v, H', I3, rv, ev, q3⟩ := I2.after hq'
      subst ev
      exact ⟨rv, ⟨V.ref (s.heap.objs.size + 1), H', I3, rfl, q3⟩⟩
    | next => exact False.elim hq'
    | brk => exact False.elim hq'
    | cont => exact False.elim hq'
theorem pe_make (M : Mk X.K C f) (F : FnOk X.prog X.w X.K X.mg X.base CX k f fd ps sp) (hr : Room (k + 1) X.A) (hg : Gl X x) (hm : X.mg x = some (.ref C)) (hb : Binds X.K fd ps ds) (hd : Vals dvs ds) (hx : Passes CX X E)
    (ha : PA X (e :: es) t) (hdb : (x == ("__debug__" : Str)) = false := by decide) (he : starEach (e :: es) X.env = (false, eval e X.env) :: starEach es X.env := by rfl) (hpl : (backTo pos (starEach es X.env)).any (·.1) = false := by rfl) :
    PE X (.Call (.Name x p) (e :: es) [] pos) (tMake C sp dvs E t) := by
  intro pins s σ H Q I h
  refine wpAny_Call_Name_kw (ld_glob I hg hm ?_ hdb)
  refine PySem.W.callWith_K (h₀ := X.base) I.ok.mod.kin M.kp (thn (ha pos pins s σ H _ I h) fun us s1 ⟨vs, H1, I1, r, q⟩ => ⟨I1.kIn, ?_⟩) he hpl
  exact run_make M F hr hb hd hx I1 r q
end
def PK (X : Cx) (kws : List Keyword) (t : TA) : Prop :=
  ∀ (pos : Pos) (pins : List (Addr × Obj)) (s : Shared) (σ : St) (H : Hp) (Q : List V → Hp → Prop), Inv X pins σ H s → t σ H Q → wpAny (model X.prog X.w) X.A (evalAll ((backToKw pos (keywordEach kws X.env)).map (·.2))) (AP X pins σ Q) X.xe s
section
variable {X : Cx} {CX : CXT} {k : Nat} {f C : Addr} {fd : FuncData} {ps ks : List Str} {sp : Sp} {E : XK} {x m : Str} {p pos apos kpos : Pos} {e o : Expr} {es : List Expr} {kws : List Keyword} {te ta : TE} {t tk : TA} {nm : Option Str}
structure KBinds (K : PySem.W.Frag) (fd : FuncData) (ps ks : List Str) (g : List Value → List Value → List Value) (gV : List V → List V → List V) : Prop where
  to : ∀ (s : Shared) (us ws : List Value), K.In s.heap → (g us ws).length = ps.length → BindsTo s fd ⟨us, ks.zip ws⟩ (ps.zip (g us ws))
  rel : ∀ {vs : List V} {us : List Value} {zs : List V} {ws : List Value}, Vals vs us → Vals zs ws → Vals (gV vs zs) (g us ws)
def tCallK (sp : Sp) (gV : List V → List V → List V) (E : XK) (t tk : TA) : TE := fun σ H Q => t σ H fun vs H1 => tk σ H1 fun zs H2 => sp (gV vs zs) H2 Q E
variable {g : List Value → List Value → List Value} {gV : List V → List V → List V}
end
structure FnScope (N P : List Str) (sc : Scope) : Prop where
  kind : sc.kind = .function
  co : sc.isCoroutine = false
  gen : sc.isGenerator = false
  nd : N.Nodup
  pre : N.take P.length = P
  par : ∀ x ∈ P, sc.names.lookup x = some .local ∨ sc.names.lookup x = some .cell
  nofree : ∀ y ∈ sc.names, y.2 ≠ .free
theorem bindL_out {kindOf : Str → Option NameKind} {x : Str} : ∀ {binds : List (Str × Value)} {m : Str → Option Value}, (∀ v, (x, v) ∉ binds) → bindL kindOf binds m x = m x
  | [], _, _ => rfl
  | (n, v) :: r, m, h => by
    unfold bindL
    rw [bindL_out fun w hw => h w (List.mem_cons_of_mem _ hw)]
    split
    · have : x ≠ n := by rintro rfl; exact h v List.mem_cons_self
      simp [this]
    · rfl
theorem bindC_out {kindOf : Str → Option NameKind} {x : Str} : ∀ {binds : List (Str × Value)} {m : Str → Option Value}, (∀ v, (x, v) ∉ binds) → bindC kindOf binds m x = m x
  | [], _, _ => rfl
  | (n, v) :: r, m, h => by
    unfold bindC
    rw [bindC_out fun w hw => h w (List.mem_cons_of_mem _ hw)]
    split
    · rfl
    · have : x ≠ n := by rintro rfl; exact h v List.mem_cons_self
      simp [this]
theorem bindL_get {kindOf : Str → Option NameKind} {x : Str} {v : Value} : ∀ {P : List Str} {vs : List Value} {i : Nat} {m : Str → Option Value}, P.Nodup → P[i]? = some x → vs[i]? = some v → kindOf x = some .local →
    bindL kindOf (P.zip vs) m x = some v
  | [], _, _, _, _, h, _, _ => by simp at h
  | _ :: _, [], _, _, _, _, h, _ => by simp at h
  | p :: P, w :: vs, 0, m, nd, h1, h2, hk => by
    simp at h1 h2; subst h1; subst h2
    show bindL kindOf ((p, w) :: P.zip vs) m p = _
    unfold bindL
    rw [bindL_out fun v hv => (List.nodup_cons.mp nd).1 (List.of_mem_zip hv).1, if_pos hk]
    simp
  | p :: P, w :: vs, i + 1, m, nd, h1, h2, hk => by
    show bindL kindOf ((p, w) :: P.zip vs) m x = _
    unfold bindL
    exact bindL_get (i := i) (List.nodup_cons.mp nd).2 (by simpa using h1) (by simpa using h2) hk
theorem bindC_get {kindOf : Str → Option NameKind} {x : Str} {v : Value} : ∀ {P : List Str} {vs : List Value} {i : Nat} {m : Str → Option Value}, P.Nodup → P[i]? = some x → vs[i]? = some v → kindOf x ≠ some .local →
    bindC kindOf (P.zip vs) m x = some v
  | [], _, _, _, _, h, _, _ => by simp at h
  | _ :: _, [], _, _, _, _, h, _ => by simp at h
  | p :: P, w :: vs, 0, m, nd, h1, h2, hk => by
    simp at h1 h2; subst h1; subst h2
    show bindC kindOf ((p, w) :: P.zip vs) m p = _
    unfold bindC
    rw [bindC_out fun v hv => (List.nodup_cons.mp nd).1 (List.of_mem_zip hv).1, if_neg hk]
    simp
  | p :: P, w :: vs, i + 1, m, nd, h1, h2, hk => by
    show bindC kindOf ((p, w) :: P.zip vs) m x = _
    unfold bindC
    exact bindC_get (i := i) (List.nodup_cons.mp nd).2 (by simpa using h1) (by simpa using h2) hk
def start (N : List Str) (vs : List V) : St := vs.map some ++ List.replicate (N.length - vs.length) none
def cxOf (CX : CXT) (P : Program) (w : World) (K : PySem.W.Frag) (mg : Str → Option Value) (base : Heap) (N : List Str) (qual : Str) (scope : Scope) (f : Addr) (cd : Value) (A : Around) (outer : List Env) (s : Shared) (H : Hp) (E : XK) : Cx where
  prog := P
  w := w
  K := K
  mg := mg
  base := base
  A := A.deeper (envOfC qual scope s.heap.objs.size f cd)
  N := N
  s₀ := s
  H₀ := H
  env := envOfC qual scope s.heap.objs.size f cd
  outer := outer
  stack := envOfC qual scope s.heap.objs.size f cd :: outer
  ex := []
  calm := true
  fn := fun _ => true
  pn := []
  xe := fun e s' => wpAny (model P w) (A.deeper (envOfC qual scope s.heap.objs.size f cd)) (leaving (envOfC qual scope s.heap.objs.size f cd) e) (fun _ s'' => CX outer H s E e s'') (fun e' s'' => CX outer H s E e' s'') s'
theorem cell_has {sc : Scope} {n : Nat} {x : Str} (h : sc.names.lookup x = some .cell) : ∃ c, (cellsFrom n sc.names []).lookup x = some c := by
  have q := PySem.W.cellsFrom_some sc.names n [] (.inl h)
  exact Option.isSome_iff_exists.mp q
theorem inv_start {CX : CXT} {P : Program} {w : World} {K : PySem.W.Frag} {mg : Str → Option Value} {base : Heap} {N ps : List Str} {qual : Str} {scope : Scope} {f : Addr} {cd : Value} {A : Around} {outer : List Env} {s s1 : Shared} {H : Hp} {E : XK} {us : List Value} {vs : List V}
    (S : FnScope N ps scope) (hd : A.handled = none) (e0 : Env0 P w K mg base A outer s H) (hl : vs.length = ps.length) (r : Vals vs us)
    (x : InCallC s s.heap.objs.size (bindL (envOfC qual scope s.heap.objs.size f cd).kindOf (ps.zip us) fun _ => none) (cellsFrom (s.heap.objs.size + 1) scope.names []) (bindC (envOfC qual scope s.heap.objs.size f cd).kindOf (ps.zip us) fun _ => none) s1) :
    Inv (cxOf CX P w K mg base N qual scope f cd A outer s H E) [] (start N vs) H s1 := by
  have hpl : ps.length ≤ N.length := by have := congrArg List.length S.pre; rw [List.length_take] at this; omega
  obtain ⟨h1, tk, rfl, hk⟩ := x.done
  have noA : ∀ b : Addr, b ∉ (cxOf CX P w K mg base N qual scope f cd A outer s H E).ex := fun b z => absurd (show b ∈ ([] : List Addr) from z) (by simp)
  refine ⟨⟨e0.mod, S.kind, rfl, rfl, Nat.le_refl _, fun y z c h1 h2 => ?_, fun y hy => ?_, fun y c _ h => ?_, fun _ => hd, Around.frames_deeper e0.frames, .inr ⟨rfl, rfl⟩, fun b z => absurd z (noA b), e0.bs, e0.bsz, fun b _ _ => noA b, fun b z => absurd z (noA b), e0.funs, e0.frf⟩,
    rfl, e0.bare, Un.kept hk, ⟨_, x.toInCall.ns, fun i y v h1 h2 h3 => ?_⟩, fun y c h => ⟨_, x.cell y c h⟩, e0.hok.fresh (Nat.le_refl _), fun y c h => ?_, fun p hp => absurd (show p ∈ ([] : List (Addr × Obj)) from hp) (by simp), e0.hok.kept hk, ?_⟩
  · exact name_of_addr x.apart (PySem.mem_of_lookup h1) (PySem.mem_of_lookup h2)
  · have hy : scope.names.lookup y = some .cell ∨ scope.names.lookup y = some .free := hy
    rcases hy with hy | hy
    · exact cell_has hy
    · exact absurd rfl (S.nofree _ (PySem.mem_of_lookup hy))
  · exact Nat.le_of_lt (x.above y c (PySem.mem_of_lookup h))
  · have hi : i < vs.length := by
      unfold start at h2
      by_cases hi : i < vs.length
      · exact hi
      · rw [List.getElem?_append_right (by simpa using hi)] at h2
        rw [List.getElem?_replicate] at h2
        split at h2 <;> cases h2
    have ha : vs[i]? = some v := by
      unfold start at h2
      rw [List.getElem?_append_left (by simpa using hi), List.getElem?_map] at h2
      cases e : vs[i]? with
      | none => rw [e] at h2; cases h2
      | some a => rw [e] at h2; cases h2; rfl
    obtain ⟨u, hu, rv⟩ := r.get ha
    have hp : ps[i]? = some y := by
      rw [← S.pre, List.getElem?_take_of_lt (by omega)]; exact h1
    have ndP : ps.Nodup := by rw [← S.pre]; exact S.nd.sublist (List.take_sublist _ _)
    refine ⟨u, rv, ?_⟩
    rcases S.par y (List.mem_of_getElem? hp) with k | k
    · exact .inl ⟨k, bindL_get ndP hp hu k⟩
    · obtain ⟨c, e⟩ := cell_has (n := s.heap.objs.size + 1) k
      refine .inr ⟨.inl k, c, e, ?_⟩
      have q := x.cell y c e
      rw [bindC_get ndP hp hu (by show scope.names.lookup y ≠ _; rw [k]; decide)] at q
      exact q
  · exact e0.hok.fresh (Nat.le_of_lt (x.above y c (PySem.mem_of_lookup h)))
  · unfold start
    show _ = N.length
    rw [List.length_append, List.length_map, List.length_replicate]
    omega
theorem fn_of {CX : CXT} {P : Program} {w : World} {K : PySem.W.Frag} {mg : Str → Option Value} {base : Heap} {k : Nat} {f : Addr} {name qual : Str} {params : Arguments} {body : List Stmt} {scope : Scope} {dV kV doc pm cdv ct oc : Value} {an od : Option Addr}
    {osl : Array (Option Value)} {N ps : List Str} {sp : Sp} (lk : K.lookup f = some ⟨oc, od, .func (PySem.W.fnOf name qual params body scope dV kV doc pm an cdv ct), osl⟩) (hcd : PySem.W.codeIn K cdv qual = true) (S : FnScope N ps scope)
    (len : ∀ vs H Q E, sp vs H Q E → vs.length = ps.length)
    (hbody : ∀ (A : Around) (outer : List Env) (s : Shared) (H : Hp) (vs : List V) (Q : VK) (E : XK), Room k (A.deeper (envOfC qual scope s.heap.objs.size f cdv)) → sp vs H Q E →
      ∃ t, PSs (cxOf CX P w K mg base N qual scope f cdv A outer s H E) body t ∧ t { nx := fun _ H' => Q .non H', rt := Q } (start N vs) H) :
    FnOk P w K mg base CX (k + 1) f (PySem.W.fnOf name qual params body scope dV kV doc pm an cdv ct) ps sp := by
  refine ⟨len, fun A outer s H args us vs Q E hr e0 hb r hsp => ?_⟩
  have hl := len _ _ _ _ hsp
  have KX : K.In s.heap := e0.mod.kin.keeps fun b o e => (e0.bs b o e).1
  have lim : s.heap.NoLimit := e0.mod.nolimit.keeps fun b o e => (e0.bs b o e).1
  have hkind : ∀ y ∈ ps.zip us, scope.names.lookup y.1 = some .local ∨ (scope.names.lookup y.1 = some .cell ∧ ((cellsFrom (s.heap.objs.size + 1) scope.names []).lookup y.1).isSome = true) := fun ⟨n, v⟩ hy => by
    rcases S.par n (List.of_mem_zip hy).1 with q | q
    · exact .inl q
    · exact .inr ⟨q, PySem.W.cellsFrom_some _ _ _ (.inl q)⟩
  refine codeAny_call_function hr.depth (KX _ _ lk) rfl S.co S.gen rfl (PySem.W.codeRec_of KX hcd) (hb _ _ _ _ ?_)
  refine wpAny_newFunctionEnv_cells S.kind hkind fun env he s1 x => ?_
  subst he
  refine ⟨lim.keeps x.toInCall.keep, codeAny_func ?_⟩
  obtain ⟨t, ht, hq⟩ := hbody A outer s H vs Q E (hr.deeper _) hsp
  have I : Inv (cxOf CX P w K mg base N qual scope f cdv A outer s H E) [] (start N vs) H s1 := inv_start S hr.hd e0 hl r x
  refine wpAny_mono (ht [] s1 (start N vs) H _ I hq) (fun fl s' hs => ?_) fun e s' hs => hs
  have fin : ∀ {σ' : St} {H' : Hp} {v : V} {u : Value}, Inv (cxOf CX P w K mg base N qual scope f cdv A outer s H E) [] σ' H' s' → RelV v u → Q v H' → CE outer P w H s Q u s' :=
    fun {σ' H' v u} J rv q => ⟨v, H', J.os, J.bare, J.base, J.hok, rv, q⟩
  cases fl with
  | ret u =>
    obtain ⟨v, σ', H', J, rv, q⟩ := hs
    exact fin J rv q
  | next =>
    obtain ⟨σ', H', J, q⟩ := hs
    exact fin (v := V.non) (u := Value.none) J rfl q
  | brk =>
    obtain ⟨_, _, _, q⟩ := hs
    exact False.elim q
  | cont =>
    obtain ⟨_, _, _, q⟩ := hs
    exact False.elim q
end L2
namespace L2
open PySem PySem.Spec PyProof.Rows
section
variable {X : Cx} {x : Str} {p pos : Pos} {e : Expr} {es : List Expr} {t : TA} {id T : String} {r : List V → Hp → VK → Prop}
def tCB (r : List V → Hp → VK → Prop) (t : TA) : TE := fun σ H Q => t σ H fun vs H1 => r vs H1 Q
theorem pe_callB (hc : CallR X (.builtin id) r) (hg : Gl X x) (hm : X.mg x = none) (hv : bootBuiltins x = some (.builtin id)) (ha : PA X (e :: es) t) (hn : x ≠ "__name__" := by decide) (hdb : (x == ("__debug__" : Str)) = false := by decide)
    (he : starEach (e :: es) X.env = (false, eval e X.env) :: starEach es X.env := by rfl) (hpl : (backTo pos (starEach es X.env)).any (·.1) = false := by rfl) : PE X (.Call (.Name x p) (e :: es) [] pos) (tCB r t) := by
  intro pins s σ H Q I h
  refine wpAny_Call_Name_kw (ld_blt I hg hm hv ?_ hn hdb)
  exact PyProof.Rows.callWith_builtin1 (thn (ha pos pins s σ H _ I h) fun us s1 ⟨vs, H1, I1, r1, q1⟩ => hc pins s1 σ H1 vs us Q I1 r1 q1) he hpl
theorem pe_callTy (hc : CallR X (.type T) r) (hg : Gl X x) (hm : X.mg x = none) (hv : bootBuiltins x = some (.type T)) (ha : PA X (e :: es) t) (hn : x ≠ "__name__" := by decide) (hdb : (x == ("__debug__" : Str)) = false := by decide)
    (he : starEach (e :: es) X.env = (false, eval e X.env) :: starEach es X.env := by rfl) (hpl : (backTo pos (starEach es X.env)).any (·.1) = false := by rfl) : PE X (.Call (.Name x p) (e :: es) [] pos) (tCB r t) := by
  intro pins s σ H Q I h
  refine wpAny_Call_Name_kw (ld_blt I hg hm hv ?_ hn hdb)
  exact PyProof.Rows.callWith_type1 (thn (ha pos pins s σ H _ I h) fun us s1 ⟨vs, H1, I1, r1, q1⟩ => hc pins s1 σ H1 vs us Q I1 r1 q1) he hpl
end
end L2
namespace HT
open PySem PyProof.Rows
def lexLt : List Int → List Int → Bool
  | [], [] => false
  | [], _ :: _ => true
  | _ :: _, [] => false
  | x :: xs, y :: ys => if x = y then lexLt xs ys else decide (x < y)
section
open PySem.SeqAt
open PySem.AutoSeq1 (wpAny_loadPart')
open PySem.MeetsSeq PySem.MeetsSeq2 PySem.MeetsSeq3
end
section
variable {prog : Program} {w : World} {A : Around} {E : Value → Shared → Prop} {s : Shared}
def sIx (n d : Nat) : Option Int → Nat
  | none => d
  | some v => if v < 0 then (v + (n : Int)).toNat else min v.toNat n
theorem sIx_none (n d : Nat) : sIx n d none = d := rfl
end
end HT
namespace L2
open PySem PySem.Spec PyProof.Rows
abbrev TO := St → Hp → (Option Int → Hp → Prop) → Prop
def PO (X : Cx) (e : Option Expr) (t : TO) : Prop :=
  ∀ (pins : List (Addr × Obj)) (s : Shared) (σ : St) (H : Hp) (Q : Option Int → Hp → Prop), Inv X pins σ H s → t σ H Q →
    wpAny (model X.prog X.w) X.A (evalPart e X.env) (fun u s' => ∃ o H', Inv X pins σ H' s' ∧ IsPart u o ∧ Q o H') X.xe s
def tNoPart : TO := fun _ H Q => Q none H
def tPart (t : TE) : TO := fun σ H Q => t σ H fun x H1 => ∃ i, x = .int i ∧ Q (some i) H1
section
variable {X : Cx} {e : Expr} {te : TE} {lo hi : Option Expr} {tl th : TO} {pos p2 : Pos}
theorem po_none : PO X none tNoPart := by
  intro pins s σ H Q I h
  rw [evalPart_none]
  exact wpAny_pure ⟨none, H, I, .none, h⟩
theorem po_some (h : PE X e te) : PO X (some e) (tPart te) := by
  intro pins s σ H Q I hw
  rw [evalPart_some]
  refine thn (h pins s σ H _ I hw) fun u s1 ⟨x, H1, I1, r1, q1⟩ => ?_
  obtain ⟨i, rfl, q⟩ := q1
  obtain ⟨t, rfl⟩ := r1
  exact ⟨some i, H1, I1, .int i t, q⟩
def SlR (X : Cx) (r : V → Option Int → Option Int → Hp → VK → Prop) : Prop :=
  ∀ (pins : List (Addr × Obj)) (s : Shared) (σ : St) (H : Hp) (x : V) (v vl vu : Value) (lo hi : Option Int) (sl : Addr) (Q : VK), Inv X pins σ H s → RelV x v → s.heap.IsSliceOf sl vl vu .none → IsPart vl lo → IsPart vu hi → r x lo hi H Q →
    ∃ T id, typeLookup (.type T) "__getitem__" = pure (some (.builtin id)) ∧ s.TypeIs v T ∧ wpAny (model X.prog X.w) X.A (getItem v (.ref sl)) (EP X pins σ Q) X.xe s
theorem SlR.or {r r' : V → Option Int → Option Int → Hp → VK → Prop} (h : SlR X r) (h' : SlR X r') : SlR X (fun x lo hi H Q => r x lo hi H Q ∨ r' x lo hi H Q) := by
  intro pins s σ H x v vl vu lo hi sl Q I rx hs pl pu q
  rcases q with q | q
  · exact h pins s σ H x v vl vu lo hi sl Q I rx hs pl pu q
  · exact h' pins s σ H x v vl vu lo hi sl Q I rx hs pl pu q
def tSl (r : V → Option Int → Option Int → Hp → VK → Prop) (te : TE) (tl th : TO) : TE := fun σ H Q => te σ H fun x H1 => tl σ H1 fun l H2 => th σ H2 fun u H3 => r x l u H3 Q
theorem pe_slice {r : V → Option Int → Option Int → Hp → VK → Prop} (hr : SlR X r) (he : PE X e te) (hl : PO X lo tl) (hu : PO X hi th) : PE X (.Subscript e (.Slice lo hi none p2) pos) (tSl r te tl th) := by
  intro pins s σ H Q I h
  refine Subscript_ (thn (he pins s σ H _ I h) fun v s1 ⟨x, H1, I1, r1, q1⟩ => ?_)
  refine wpAny_Slice (thn (hl pins s1 σ H1 _ I1 q1) fun vl s2 ⟨l, H2, I2, pl, q2⟩ => thn (hu pins s2 σ H2 _ I2 q2) fun vu s3 ⟨u, H3, I3, pu, q3⟩ => ?_)
  rw [evalPart_none]
  refine wpAny_pure ?_
  have I4 : Inv X pins σ H3 { s3 with heap := s3.heap.push { cls := .type "slice", data := .fields #[vl, vu, .none] } } := I3.kept (t' := s3.toks) fun b ob q => Heap.get?_push_of_some _ q
  obtain ⟨T, id, hT, ht, hg⟩ := hr pins { s3 with heap := s3.heap.push { cls := .type "slice", data := .fields #[vl, vu, .none] } } σ H3 x v vl vu l u s3.heap.objs.size Q I4 r1 (Heap.IsSliceOf.new ..) pl pu q3
  show wpAny (model X.prog X.w) X.A (subscriptTail e (.Slice lo hi none p2) v (.ref s3.heap.objs.size)) (EP X pins σ Q) X.xe { s3 with heap := s3.heap.push { cls := .type "slice", data := .fields #[vl, vu, .none] } }
  exact tail_any (ops := [.ref s3.heap.objs.size, v]) ht hT hg (by with_unfolding_all rfl)
def cutV (xs : List V) (lo hi : Option Int) : List V := (xs.drop (HT.sIx xs.length 0 lo)).take (HT.sIx xs.length xs.length hi - HT.sIx xs.length 0 lo)
theorem cutV_length (xs : List V) (lo hi : Option Int) : (cutV xs lo hi).length ≤ xs.length := by
  unfold cutV
  rw [List.length_take, List.length_drop]
  omega
def rSlT (K : PySem.W.Frag) : V → Option Int → Option Int → Hp → VK → Prop := fun x lo hi H Q => ∃ a xs, x = .ref a ∧ SqT K H a xs ∧
  ¬ (HT.sIx xs.length 0 lo = 0 ∧ HT.sIx xs.length xs.length hi = xs.length) ∧ ∀ p, H p = none → Q (.ref p) (upd H p (.tup (cutV xs lo hi)))
def rLtT (K : PySem.W.Frag) : R2 := fun x y H Q => ∃ a b ns ms, x = .ref a ∧ y = .ref b ∧ SqT K H a (ns.map V.int) ∧ SqT K H b (ms.map V.int) ∧ Q (.bl (HT.lexLt ns ms)) H
def rCatT (K : PySem.W.Frag) : R2 := fun x y H Q => ∃ a b xs ys, x = .ref a ∧ y = .ref b ∧ SqT K H a xs ∧ SqT K H b ys ∧ xs ≠ [] ∧ xs.length + ys.length ≤ sizeLine ∧
  (ys = [] → Q (.ref a) H) ∧ (ys ≠ [] → ∀ p, H p = none → Q (.ref p) (upd H p (.tup (xs ++ ys))))
end
end L2
namespace L2
open PySem PySem.Spec PyProof.Rows
def ixN (n : Nat) (i : Int) : Option Nat := if 0 ≤ i then (if i < n then some i.toNat else none) else if -(n : Int) ≤ i then some (i + n).toNat else none
def atI {α : Type} (xs : List α) (i : Int) : Option α := (ixN xs.length i).bind fun j => xs[j]?
theorem ixN_seq {n : Nat} {i : Int} {j : Nat} (h : ixN n i = some j) : seqIndex? i n = some j ∧ j < n ∧ -(n : Int) ≤ i ∧ i < n := by
  unfold ixN at h
  by_cases h0 : 0 ≤ i
  · rw [if_pos h0] at h
    by_cases h1 : i < n
    · rw [if_pos h1] at h
      have e : i.toNat = j := Option.some.inj h
      exact ⟨by rw [seqIndex_of h0 h1, e], by omega, by omega, h1⟩
    · rw [if_neg h1] at h; cases h
  · rw [if_neg h0] at h
    by_cases h1 : -(n : Int) ≤ i
    · rw [if_pos h1] at h
      have e : (i + n).toNat = j := Option.some.inj h
      exact ⟨by rw [seqIndex_neg (by omega) h1, e], by omega, h1, by omega⟩
    · rw [if_neg h1] at h; cases h
theorem atI_get {α : Type} {xs : List α} {i : Int} {v : α} (h : atI xs i = some v) : ∃ j, seqIndex? i xs.length = some j ∧ xs[j]? = some v ∧ j < xs.length ∧ -(xs.length : Int) ≤ i ∧ i < xs.length := by
  unfold atI at h
  cases e : ixN xs.length i with
  | none => rw [e] at h; cases h
  | some j =>
    rw [e] at h
    obtain ⟨h1, h2, h3, h4⟩ := ixN_seq e
    exact ⟨j, h1, h, h2, h3, h4⟩
theorem atI_nat {α : Type} {xs : List α} {j : Nat} {v : α} (h : xs[j]? = some v) : atI xs (j : Int) = some v := by
  have hj : j < xs.length := (List.getElem?_eq_some_iff.mp h).1
  have e : ixN xs.length (j : Int) = some j := by
    unfold ixN
    rw [if_pos (by omega), if_pos (by omega)]; simp
  unfold atI; rw [e]; exact h
theorem atI_last {α : Type} (xs : List α) (v : α) : atI (xs ++ [v]) (-1) = some v := by
  have hl : (xs ++ [v]).length = xs.length + 1 := by simp
  have e : ixN (xs ++ [v]).length (-1) = some xs.length := by
    unfold ixN
    rw [hl, if_neg (by decide), if_pos (by omega)]
    congr 1
    omega
  unfold atI
  rw [e]
  show (xs ++ [v])[xs.length]? = some v
  simp
def PlainIx (b : Expr) : Prop := ∀ o i, subscripted b false o i = operate [o, i] (getItem o i)
def IxR (X : Cx) (r : R2) : Prop :=
  ∀ (value slice : Expr) (pins : List (Addr × Obj)) (s : Shared) (σ : St) (H : Hp) (x y : V) (v u : Value) (Q : VK), Inv X pins σ H s → RelV x v → RelV y u → r x y H Q →
    subscripted slice false v u = operate [v, u] (getItem v u) → wpAny (model X.prog X.w) X.A (subscriptTail value slice v u) (EP X pins σ Q) X.xe s
def MtR (X : Cx) (id : String) (r : V → List V → Hp → VK → Prop) : Prop :=
  ∀ (pins : List (Addr × Obj)) (s : Shared) (σ : St) (H : Hp) (x : V) (xs : List V) (v : Value) (us : List Value) (Q : VK), Inv X pins σ H s → RelV x v → Vals xs us → r x xs H Q →
    wpAny (model X.prog X.w) X.A (call (.builtin id) (v :: us)) (EP X pins σ Q) X.xe s
section
variable {X : Cx} {a b : Expr} {ta tb : TE} {pos : Pos}
theorem IxR.or {r r' : R2} (h : IxR X r) (h' : IxR X r') : IxR X (fun x y H Q => r x y H Q ∨ r' x y H Q) := by
  intro value slice pins s σ H x y v u Q I rx ry q hs
  rcases q with q | q
  · exact h value slice pins s σ H x y v u Q I rx ry q hs
  · exact h' value slice pins s σ H x y v u Q I rx ry q hs
theorem MtR.or {id : String} {r r' : V → List V → Hp → VK → Prop} (h : MtR X id r) (h' : MtR X id r') : MtR X id (fun x xs H Q => r x xs H Q ∨ r' x xs H Q) := by
  intro pins s σ H x xs v us Q I rx rs q
  rcases q with q | q
  · exact h pins s σ H x xs v us Q I rx rs q
  · exact h' pins s σ H x xs v us Q I rx rs q
theorem pe_ix {r : R2} (hr : IxR X r) (ha : PE X a ta) (hb : PE X b tb) (hs : PlainIx b) : PE X (.Subscript a b pos) (tOp r ta tb) := by
  intro pins s σ H Q I h
  exact Subscript_ (binT ha hb I h fun v u s2 x y H2 I2 rx ry q => hr a b pins s2 σ H2 x y v u Q I2 rx ry q (hs _ _))
def rIxL (K : PySem.W.Frag) : R2 := fun x y H Q => ∃ p xs i v, x = .ref p ∧ y = .int i ∧ SqL K H p xs ∧ atI xs i = some v ∧ Q v H
def rIxT (K : PySem.W.Frag) : R2 := fun x y H Q => ∃ p xs i v, x = .ref p ∧ y = .int i ∧ SqT K H p xs ∧ atI xs i = some v ∧ Q v H
def rIxS : R2 := fun x y H Q => ∃ z i c, x = .str z ∧ y = .int i ∧ z.length ≤ sizeLine ∧ atI z.cps.toList i = some c ∧ Q (.str ⟨#[c]⟩) H
theorem ix_list : IxR X (rIxL X.K) := by
  intro value slice pins s σ H x y v u Q I rx ry h hs
  obtain ⟨p, xs, i, z, rfl, rfl, hq, he, q⟩ := h
  cases rx
  obtain ⟨t, rfl⟩ := ry
  obtain ⟨its, r, pl, hz⟩ := I.list hq
  obtain ⟨j, h1, h2, h3, h4, h5⟩ := atI_get he
  obtain ⟨w, ew, rw'⟩ := r.get h2
  have hl := r.length
  have hn := line63
  have fin : EP X pins σ Q w s := ⟨z, H, I, rw', q⟩
  by_cases h0 : 0 ≤ i
  · have hj : i.toNat = j := by
      rw [seqIndex_of h0 h5] at h1
      exact Option.some.inj h1
    exact item_listR pl.isList h0 (by omega) (by rw [hj]; simpa using ew) fin hs
  · have hj : (i + (its.toArray.size : Int)).toNat = j := by
      rw [seqIndex_neg (by omega) h4] at h1
      rw [List.size_toArray, ← hl]
      exact Option.some.inj h1
    exact subscriptTail_builtinR (x := w) pl.isList.typeIs slot_list_getitem.lookup
      (wpAny_getItem_list_neg (Q := fun r s' => r = w ∧ EP X pins σ Q r s') pl.isList (by omega) (by rw [List.size_toArray] <;> omega) (by omega) (by rw [hj]; simpa using ew) ⟨rfl, fin⟩) hs
theorem ix_tup : IxR X (rIxT X.K) := by
  intro value slice pins s σ H x y v u Q I rx ry h hs
  obtain ⟨p, xs, i, z, rfl, rfl, hq, he, q⟩ := h
  cases rx
  obtain ⟨t, rfl⟩ := ry
  obtain ⟨its, r, pl, hz⟩ := I.tuple hq
  obtain ⟨j, h1, h2, h3, h4, h5⟩ := atI_get he
  obtain ⟨w, ew, rw'⟩ := r.get h2
  have hl := r.length
  have hn := line63
  have fin : EP X pins σ Q w s := ⟨z, H, I, rw', q⟩
  exact subscriptTail_builtinR (x := w) pl.typeIs slot_tuple_getitem.lookup
    (getItem_tuple (j := j) (Q := fun r s' => r = w ∧ EP X pins σ Q r s') pl (by omega) (by omega) (by rw [List.size_toArray, ← hl]; exact h1) (by simpa using ew) ⟨rfl, fin⟩) hs
def rIx (K : PySem.W.Frag) : R2 := fun x y H Q => rIxL K x y H Q ∨ rIxT K x y H Q ∨ rIxS x y H Q
theorem mapSeq_set (its : List Value) (n j : Nat) (u : Value) : Obj.mapSeq (·.setIfInBounds j u) { cls := .type "list", data := .seq its.toArray n } = { cls := .type "list", data := .seq (its.set j u).toArray n } := by
  simp [Obj.mapSeq]
theorem Inv.lst {pins : List (Addr × Obj)} {σ : St} {H : Hp} {s : Shared} {p : Addr} {xs : List V} (I : Inv X pins σ H s) (h : H p = some (.lst xs)) :
    ∃ (its : List Value) (n : Nat), Vals xs its ∧ s.heap.get? p = some { cls := .type "list", data := .seq its.toArray n } ∧ xs.length ≤ sizeLine := by
  obtain ⟨z, its, n, r, e⟩ := I.hok p _ h
  exact ⟨its, n, r, e, z⟩
theorem Inv.lstUpd {pins : List (Addr × Obj)} {σ : St} {H : Hp} {s : Shared} {p : Addr} {xs ys : List V} {its its' : List Value} {n n' : Nat} {f : Obj → Obj} (I : Inv X pins σ H s) (h : H p = some (.lst xs))
    (ho : s.heap.get? p = some { cls := .type "list", data := .seq its.toArray n }) (hf : f { cls := .type "list", data := .seq its.toArray n } = { cls := .type "list", data := .seq its'.toArray n' }) (r : Vals ys its') (hz : ys.length ≤ sizeLine) (t : Nat) :
    Inv X pins σ (upd H p (.lst ys)) { s with heap := s.heap.update p f, toks := t } := by
  have e : (s.heap.update p f).get? p = some { cls := .type "list", data := .seq its'.toArray n' } := by
    rw [Heap.get?_update_self f ho (by rw [hf] <;> rfl), hf]
  refine I.write (x := p) (e := p) (by rw [h]; trivial) (.inl rfl) (fun b u hb q => (Heap.get?_update_other _ _ (Ne.symm hb)).trans q) ⟨_, e⟩ ?_
  exact ⟨hz, its', n', r, e⟩
def rSetL : V → V → V → Hp → (Hp → Prop) → Prop := fun o i v H Q => ∃ p xs k j, o = .ref p ∧ i = .int k ∧ H p = some (.lst xs) ∧ ixN xs.length k = some j ∧ Q (upd H p (.lst (xs.set j v)))
theorem set_list : PSet X rSetL := by
  intro pins s σ H o i v ov iv u Q I ro ri rv h
  obtain ⟨p, xs, k, j, rfl, rfl, hp, hj, q⟩ := h
  cases ro
  obtain ⟨t, rfl⟩ := ri
  obtain ⟨its, n, r, ho, hz⟩ := I.lst hp
  obtain ⟨h1, h2, h3, h4⟩ := ixN_seq hj
  have hl := r.length
  have hn := line63
  have I' : Inv X pins σ (upd H p (.lst (xs.set j v))) { s with heap := s.heap.update p (Obj.mapSeq (·.setIfInBounds j u)) } :=
    I.lstUpd hp ho (mapSeq_set its n j u) (r.set rv j) (by rw [List.length_set]; exact hz) s.toks
  by_cases h0 : 0 ≤ k
  · have hk : k.toNat = j := by
      rw [seqIndex_of h0 h4] at h1
      exact Option.some.inj h1
    exact PySem.W.ki_setAt ho h0 (by omega) (by rw [List.size_toArray, ← hl]; exact h4) (by rw [hk]; exact ⟨_, I', q⟩)
  · have hk : (k + (its.toArray.size : Int)).toNat = j := by
      rw [seqIndex_neg (by omega) h3] at h1
      rw [List.size_toArray, ← hl]
      exact Option.some.inj h1
    exact PySem.W.ki_setBack ho (by omega) (by rw [List.size_toArray, ← hl]; exact h3) (by omega) (by rw [hk]; exact ⟨_, I', q⟩)
theorem slice_bounds (lo hi : Option Int) (n : Nat) : (sliceBounds lo hi none n).1 = ((HT.sIx n 0 lo : Nat) : Int) ∧ (sliceBounds lo hi none n).2.1 = ((HT.sIx n n hi : Nat) : Int) ∧ (sliceBounds lo hi none n).2.2 = 1 := by
  refine ⟨?_, ?_, rfl⟩
  · cases lo with
    | none => simp [sliceBounds, HT.sIx]
    | some i =>
      simp only [sliceBounds, HT.sIx, Option.getD_none, show (1 : Int) > 0 by decide, if_true]
      by_cases h : i < 0
      · simp only [h, if_true] <;> omega
      · simp only [h, if_false] <;> omega
  · cases hi with
    | none => simp [sliceBounds, HT.sIx]
    | some i =>
      simp only [sliceBounds, HT.sIx, Option.getD_none, show (1 : Int) > 0 by decide, if_true]
      by_cases h : i < 0
      · simp only [h, if_true] <;> omega
      · simp only [h, if_false] <;> omega
theorem slicePick_cut (its : List Value) (lo hi : Option Int) : slicePick its.toArray lo hi none = ((its.drop (HT.sIx its.length 0 lo)).take (HT.sIx its.length its.length hi - HT.sIx its.length 0 lo)).toArray := by
  obtain ⟨h1, h2, h3⟩ := slice_bounds lo hi its.toArray.size
  unfold slicePick
  rw [h1, h2, h3]
  simp only [sliceRange_one, pick_run, List.size_toArray] <;> rfl
def rSlL (K : PySem.W.Frag) : V → Option Int → Option Int → Hp → VK → Prop := fun x lo hi H Q => ∃ a xs, x = .ref a ∧ SqL K H a xs ∧ ∀ p, H p = none → Q (.ref p) (upd H p (.lst (cutV xs lo hi)))
theorem sl_list : SlR X (rSlL X.K) := by
  intro pins s σ H x v vl vu lo hi sl Q I rx hs pl pu h
  obtain ⟨a, xs, rfl, hx, q⟩ := h
  cases rx
  obtain ⟨its, r, ht, hz⟩ := I.list hx
  have hlen := r.length
  refine ⟨"list", _, slot_list_getitem.lookup, ht.isList.typeIs, ?_⟩
  refine wpAny_getItem_list_slice ht.isList hs pl pu .none (by simp) ?_ (by rw [List.size_toArray] <;> omega)
  rw [slicePick_cut, ← hlen]
  refine ⟨.ref s.heap.objs.size, _, I.laid (t' := s.toks) (o := .lst (cutV xs lo hi)) (fun b ob q => Heap.get?_push_of_some _ q) (Nat.le_refl _) ?_, rfl, q _ (I.hok.fresh (Nat.le_refl _))⟩
  exact ⟨Nat.le_trans (cutV_length xs lo hi) hz, _, 0, (r.drop (HT.sIx xs.length 0 lo)).take (HT.sIx xs.length xs.length hi - HT.sIx xs.length 0 lo), Heap.get?_push_size _ rfl⟩
def flatV : V → Bool
  | .non => true
  | .bl _ => true
  | .int _ => true
  | .str _ => true
  | _ => false
def eqV : V → V → Bool
  | .non, .non => true
  | .bl a, .bl b => a == b
  | .bl a, .int b => (if a then 1 else 0) == b
  | .int a, .bl b => a == (if b then 1 else 0)
  | .int a, .int b => a == b
  | .str a, .str b => a == b
  | _, _ => false
theorem eqAt_V {A : Around} {s : Shared} {y x : V} {u v : Value} (ry : RelV y u) (rx : RelV x v) (fy : flatV y = true) (fx : flatV x = true) : SeqAt.EqAt A s u v (eqV y x) := by
  cases y with
  | non =>
    cases ry
    cases x with
    | non => cases rx; exact SeqAt.EqAt.same _
    | bl b => cases rx; exact SeqAt.EqAt.none_bool b
    | int b => obtain ⟨t, rfl⟩ := rx; exact SeqAt.EqAt.none_int b t
    | str b => obtain ⟨t, rfl⟩ := rx; exact SeqAt.EqAt.none_str b t
    | _ => exact absurd (show false = true from fx) Bool.false_ne_true
  | bl a =>
    cases ry
    cases x with
    | non => cases rx; exact SeqAt.EqAt.bool_none a
    | bl b => cases rx; exact SeqAt.EqAt.bool_bool a b
    | int b => obtain ⟨t, rfl⟩ := rx; exact SeqAt.EqAt.bool_int a b t
    | str b => obtain ⟨t, rfl⟩ := rx; exact SeqAt.EqAt.bool_str a b t
    | _ => exact absurd (show false = true from fx) Bool.false_ne_true
  | int a =>
    obtain ⟨t', rfl⟩ := ry
    cases x with
    | non => cases rx; exact SeqAt.EqAt.int_none a t'
    | bl b => cases rx; exact SeqAt.EqAt.int_bool a t' b
    | int b => obtain ⟨t, rfl⟩ := rx; exact SeqAt.EqAt.int_int a t' b t
    | str b => obtain ⟨t, rfl⟩ := rx; exact SeqAt.EqAt.int_str a t' b t
    | _ => exact absurd (show false = true from fx) Bool.false_ne_true
  | str a =>
    obtain ⟨t', rfl⟩ := ry
    cases x with
    | non => cases rx; exact SeqAt.EqAt.str_none a t'
    | bl b => cases rx; exact SeqAt.EqAt.str_bool a t' b
    | int b => obtain ⟨t, rfl⟩ := rx; exact SeqAt.EqAt.str_int a t' b t
    | str b => obtain ⟨t, rfl⟩ := rx; exact SeqAt.EqAt.str_str a t' b t
    | _ => exact absurd (show false = true from fx) Bool.false_ne_true
  | _ => exact absurd (show false = true from fy) Bool.false_ne_true
def eqU (x : V) (u : Value) : Bool := match u with
  | .none => eqV .non x
  | .bool b => eqV (.bl b) x
  | .int i _ => eqV (.int i) x
  | .str z _ => eqV (.str z) x
  | _ => false
theorem eqU_of {x y : V} {u : Value} (r : RelV y u) (f : flatV y = true) : eqU x u = eqV y x := by
  cases y with
  | non => cases r; rfl
  | bl b => cases r; rfl
  | int i => obtain ⟨t, rfl⟩ := r; rfl
  | str z => obtain ⟨t, rfl⟩ := r; rfl
  | _ => exact absurd (show false = true from f) Bool.false_ne_true
theorem any_eqU {x : V} : ∀ {xs : List V} {us : List Value}, Vals xs us → xs.all flatV = true → us.any (eqU x) = xs.any fun y => eqV y x
  | _, _, .nil, _ => rfl
  | y :: xs, u :: us, .cons r t, f => by
    rw [List.all_cons, Bool.and_eq_true] at f
    rw [List.any_cons, List.any_cons, eqU_of r f.1, any_eqU t f.2]
theorem mem_eqAt {A : Around} {s : Shared} {x : V} {v : Value} (rx : RelV x v) (fx : flatV x = true) : ∀ {xs : List V} {us : List Value}, Vals xs us → xs.all flatV = true → ∀ u ∈ us, SeqAt.EqAt A s u v (eqU x u)
  | _, _, .nil, _ => fun u hu => by cases hu
  | y :: xs, u :: us, .cons r t, f => fun u' hu => by
    rw [List.all_cons, Bool.and_eq_true] at f
    rcases List.mem_cons.mp hu with rfl | hu
    · rw [eqU_of r f.1]; exact eqAt_V r rx f.1 fx
    · exact mem_eqAt rx fx t f.2 u' hu
def inV (x : V) (xs : List V) : Bool := xs.any fun y => eqV y x
def rIn (K : PySem.W.Frag) (neg : Bool) : R2 := fun x y H Q => ∃ p xs, y = .ref p ∧ (SqL K H p xs ∨ SqT K H p xs) ∧ flatV x = true ∧ xs.all flatV = true ∧ Q (.bl (if neg then !inV x xs else inV x xs)) H
theorem op_in_seq : OpR X (compareOp .In) (rIn X.K false) := by
  intro pins s σ H x y v u Q I rx ry h
  obtain ⟨p, xs, rfl, hq, fx, fs, q⟩ := h
  cases ry
  rcases hq with hq | hq
  · obtain ⟨its, r, pl, hz⟩ := I.list hq
    refine SeqAt.in_listAt (eqU x) pl.isList (fun w hw => mem_eqAt rx fx r fs w (by simpa using hw)) ⟨.bl _, H, I, rfl, ?_⟩
    rw [show its.toArray.any (eqU x) = its.any (eqU x) by simp, any_eqU r fs]
    exact q
  · obtain ⟨its, r, pl, hz⟩ := I.tuple hq
    refine SeqAt.in_tupleAt (eqU x) pl (fun w hw => mem_eqAt rx fx r fs w (by simpa using hw)) ⟨.bl _, H, I, rfl, ?_⟩
    rw [show its.toArray.any (eqU x) = its.any (eqU x) by simp, any_eqU r fs]
    exact q
theorem op_notIn_seq : OpR X (compareOp .NotIn) (rIn X.K true) := by
  intro pins s σ H x y v u Q I rx ry h
  obtain ⟨p, xs, rfl, hq, fx, fs, q⟩ := h
  cases ry
  rcases hq with hq | hq
  · obtain ⟨its, r, pl, hz⟩ := I.list hq
    refine SeqAt.notIn_listAt (eqU x) pl.isList (fun w hw => mem_eqAt rx fx r fs w (by simpa using hw)) ⟨.bl _, H, I, rfl, ?_⟩
    rw [show its.toArray.any (eqU x) = its.any (eqU x) by simp, any_eqU r fs]
    exact q
  · obtain ⟨its, r, pl, hz⟩ := I.tuple hq
    refine SeqAt.notIn_tupleAt (eqU x) pl (fun w hw => mem_eqAt rx fx r fs w (by simpa using hw)) ⟨.bl _, H, I, rfl, ?_⟩
    rw [show its.toArray.any (eqU x) = its.any (eqU x) by simp, any_eqU r fs]
    exact q
theorem call_len_seq : CallR X (.builtin "len") (fun xs H Q => ∃ p ys, xs = [.ref p] ∧ (SqL X.K H p ys ∨ SqT X.K H p ys) ∧ Q (.int ys.length) H) := by
  intro pins s σ H xs us Q I r h
  obtain ⟨p, ys, rfl, hq, q⟩ := h
  obtain ⟨u, rfl, rx⟩ := vals1 r
  cases rx
  have hn := line63
  rcases hq with hq | hq
  · obtain ⟨its, r', pl, hz⟩ := I.list hq
    have hlen := r'.length
    exact Calls.call_len_list pl.isList (by simp only [List.size_toArray] <;> omega) ⟨.int ys.length, H, I.tok _, ⟨s.toks + 1, by rw [List.size_toArray, hlen]⟩, q⟩
  · obtain ⟨its, r', pl, hz⟩ := I.tuple hq
    have hlen := r'.length
    exact len_tuple pl (by simp only [List.size_toArray] <;> omega) ⟨.int ys.length, H, I.tok _, ⟨s.toks + 1, by rw [List.size_toArray, hlen]⟩, q⟩
theorem CallR.or {f : Value} {r r' : List V → Hp → VK → Prop} (h : CallR X f r) (h' : CallR X f r') : CallR X f (fun xs H Q => r xs H Q ∨ r' xs H Q) := by
  intro pins s σ H xs us Q I rs q
  rcases q with q | q
  · exact h pins s σ H xs us Q I rs q
  · exact h' pins s σ H xs us Q I rs q
theorem call_list_of : CallR X (.type "list") (fun xs H Q => ∃ p ys, xs = [.ref p] ∧ (SqL X.K H p ys ∨ SqT X.K H p ys) ∧ ∀ l, H l = none → Q (.ref l) (upd H l (.lst ys))) := by
  intro pins s σ H xs us Q I r h
  obtain ⟨p, ys, rfl, hq, q⟩ := h
  obtain ⟨u, rfl, rx⟩ := vals1 r
  cases rx
  have fin : ∀ (its : List Value), Vals ys its → ys.length ≤ sizeLine → ∀ (h' : Heap) (c' : Nat), (∀ b o', s.heap.get? b = some o' → h'.get? b = some o') →
      h'.get? s.heap.objs.size = some { cls := .type "list", dict := none, data := .seq its.toArray c', slots := #[] } → EP X pins σ Q (.ref s.heap.objs.size) { s with heap := h' } := fun its r' hz h' c' kp e =>
    ⟨.ref s.heap.objs.size, _, I.laid (t' := s.toks) kp (Nat.le_refl _) (show ObjOk X.prog X.w _ h' _ (.lst ys) from ⟨hz, its, c', r', e⟩), rfl, q _ (I.hok.fresh (Nat.le_refl _))⟩
  rcases hq with hq | hq
  · obtain ⟨its, r', pl, hz⟩ := I.list hq
    have hlen := r'.length
    obtain ⟨o, ho, hc, n, hd⟩ := pl.isList
    exact call_list_seq p (.inl rfl) ho hc hd (fun h' c' kp e => fin its r' hz h' c' kp e) (by simp only [List.size_toArray] <;> omega)
  · obtain ⟨its, r', pl, hz⟩ := I.tuple hq
    have hlen := r'.length
    obtain ⟨o, ho, hc, n, hd⟩ := pl
    exact call_list_seq p (.inr rfl) ho hc hd (fun h' c' kp e => fin its r' hz h' c' kp e) (by simp only [List.size_toArray] <;> omega)
def tyV (K : PySem.W.Frag) (T : String) (x : V) (H : Hp) : Prop := match x with
  | .str _ => T = "str"
  | .int _ => T = "int"
  | .ref p => (T = "list" ∧ ∃ xs, SqL K H p xs) ∨ (T = "tuple" ∧ ∃ o, K.lookup p = some o ∧ o.cls = .type "tuple" ∧ o.dict = none) ∨
      (T = "dict" ∧ ((∃ kvs, H p = some (.dK kvs)) ∨ ∃ kvs, H p = some (.dT kvs))) ∨ (T = "set" ∧ ∃ S n, H p = some (.set S n))
  | _ => False
theorem tyV_is {pins : List (Addr × Obj)} {σ : St} {H : Hp} {s : Shared} {T : String} {x : V} {v : Value} (I : Inv X pins σ H s) (r : RelV x v) (ty : tyV X.K T x H) :
    s.TypeIs v T ∧ ∀ a, v = .ref a → ∃ ob, s.heap.get? a = some ob ∧ ob.dict = none := by
  cases x with
  | str z =>
    obtain ⟨t, rfl⟩ := r
    cases (show T = "str" from ty)
    exact ⟨typeIs_str s z t, fun _ e => nomatch e⟩
  | int i =>
    obtain ⟨t, rfl⟩ := r
    cases (show T = "int" from ty)
    exact ⟨typeIs_int s i t, fun _ e => nomatch e⟩
  | ref p =>
    cases r
    rcases ty with ⟨rfl, xs, hq⟩ | ⟨rfl, o, hk, hc, hd⟩ | ⟨rfl, hk⟩ | ⟨rfl, S, n, hk⟩
    · obtain ⟨its, _, pl, _⟩ := I.list hq
      refine ⟨pl.isList.typeIs, fun a e => ?_⟩
      cases e
      obtain ⟨o, n, e, c, hd, _⟩ := pl
      exact ⟨o, e, hd⟩
    · refine ⟨⟨o, I.kIn p o hk, hc⟩, fun a e => ?_⟩
      cases e
      exact ⟨o, I.kIn _ o hk, hd⟩
    · have z : ∃ o, s.heap.get? p = some o ∧ o.ExactDict := by
        rcases hk with ⟨kvs, hk⟩ | ⟨kvs, hk⟩
        · obtain ⟨_, _, _, _, o, _, _, e, ex, _⟩ := I.hok p _ hk
          exact ⟨o, e, ex⟩
        · obtain ⟨_, _, _, _, o, _, _, e, ex, _⟩ := I.hok p _ hk
          exact ⟨o, e, ex⟩
      obtain ⟨o, e, ex⟩ := z
      refine ⟨⟨o, e, ex.1⟩, fun a e2 => ?_⟩
      cases e2
      exact ⟨o, e, ex.2.1⟩
    · obtain ⟨o, _, _, _, e, ex, _⟩ := I.hok p _ hk
      refine ⟨⟨o, e, ex.1⟩, fun a e2 => ?_⟩
      cases e2
      exact ⟨o, e, ex.2.1⟩
  | _ => exact False.elim ty
def tBM0 (K : PySem.W.Frag) (T : String) (r : V → List V → Hp → VK → Prop) (to : TE) : TE := fun σ H Q => to σ H fun x H1 => tyV K T x H1 ∧ r x [] H1 Q
def tBM (K : PySem.W.Frag) (T : String) (r : V → List V → Hp → VK → Prop) (to : TE) (t : TA) : TE := fun σ H Q => to σ H fun x H1 => tyV K T x H1 ∧ t σ H1 fun xs H2 => r x xs H2 Q
variable {o e : Expr} {es : List Expr} {to : TE} {t : TA} {name : Str} {apos cpos : Pos} {T id : String} {r : V → List V → Hp → VK → Prop}
theorem pe_bm (pa : PlainAttrs T) (slot : Slot T name id) (hty : typeOf (.builtin id) = pure (.type "method_descriptor")) (hm : MtR X id r) (ho : PE X o to) (ha : PA X (e :: es) t)
    (hbase : attributeBase o name X.env (eval o X.env) = eval o X.env := by rfl)
    (hfew : ((backTo cpos (starEach (e :: es) X.env)).all (fun x => !x.1) && (backToKw cpos (keywordEach [] X.env)).all (fun x => x.1.isSome)
      && decide ((e :: es).length + ([] : List Keyword).length + (if ([] : List Keyword).isEmpty then 0 else 1) < 30)) = true := by rfl)
    (hline : (apos.endLine == cpos.line) = true := by rfl) (hs : starEach (e :: es) X.env = (false, eval e X.env) :: starEach es X.env := by rfl) (hplain : (backTo cpos (starEach es X.env)).any (·.1) = false := by rfl) :
    PE X (.Call (.Attribute o name apos) (e :: es) [] cpos) (tBM X.K T r to t) := by
  intro pins s σ H Q I h
  refine wpAny_Call_method_late hbase hfew hline rfl (thn (ho pins s σ H _ I h) fun v s1 ⟨x, H1, I1, r1, ty, q1⟩ => ?_)
  obtain ⟨h1, h2⟩ := tyV_is I1 r1 ty
  refine ⟨T, id, pa, slot, hty, h1, h2, ?_⟩
  have hA := ha cpos pins s1 σ H1 _ I1 q1
  rw [hs] at hA ⊢
  refine Calls.callWith_builtin (by show (false || (backTo cpos (starEach es X.env)).any (·.1)) = false; rw [hplain] <;> rfl) (Calls.evalArgs_plain ?_)
  exact thn hA fun us s2 ⟨vs, H2, I2, r2, q2⟩ => hm pins s2 σ H2 x vs v us Q I2 r1 r2 q2
/- xs.append(e), list.index on a module's tuple .. are MtR facts of 06m -/
end
end L2
namespace L2
open PySem PySem.Spec PyProof.Rows
def MtM (X : Cx) (id : String) (r : V → List V → Hp → VK → Prop) : Prop :=
  ∀ (pins : List (Addr × Obj)) (s : Shared) (σ : St) (H : Hp) (x : V) (xs : List V) (v : Value) (us : List Value) (Q : VK), Inv X pins σ H s → RelV x v → Vals xs us → r x xs H Q →
    wpAny (model X.prog X.w) X.A (call (.builtin id) (v :: us)) (EP X pins σ Q) X.xe s
theorem Vals.one : ∀ {x : V} {us : List Value}, Vals [x] us → ∃ u, us = [u] ∧ RelV x u
  | _, _, .cons r .nil => ⟨_, rfl, r⟩
theorem Vals.two : ∀ {x y : V} {us : List Value}, Vals [x, y] us → ∃ u v, us = [u, v] ∧ RelV x u ∧ RelV y v
  | _, _, _, .cons r (.cons q .nil) => ⟨_, _, rfl, r, q⟩
theorem Vals.zero : ∀ {us : List Value}, Vals [] us → us = []
  | _, .nil => rfl
theorem Vals.dropLast {xs : List V} {us : List Value} (h : Vals xs us) : Vals xs.dropLast us.dropLast := by
  induction h with
  | nil => exact .nil
  | cons r t ih =>
    cases t with
    | nil => exact .nil
    | cons q t' => exact .cons r ih
theorem Vals.eraseIdx : ∀ {xs : List V} {us : List Value} (i : Nat), Vals xs us → Vals (xs.eraseIdx i) (us.eraseIdx i)
  | _, _, _, .nil => .nil
  | _, _, 0, .cons _ t => t
  | _, _, i + 1, .cons r t => .cons r (Vals.eraseIdx i t)
theorem Vals.reverse {xs : List V} {us : List Value} (h : Vals xs us) : Vals xs.reverse us.reverse := by
  induction h with
  | nil => exact .nil
  | cons r t ih => rw [List.reverse_cons, List.reverse_cons]; exact Vals.append ih (.cons r .nil)
theorem Vals.rep {xs : List V} {us : List Value} (h : Vals xs us) : ∀ k : Nat, Vals (List.replicate k xs).flatten (List.replicate k us).flatten
  | 0 => .nil
  | k + 1 => by
    rw [List.replicate_succ, List.replicate_succ, List.flatten_cons, List.flatten_cons]
    exact Vals.append h (Vals.rep h k)
theorem foldl_rep (its : List Value) : ∀ (k : Nat) (acc : List Value),
    List.foldl (fun x1 x2 => x1 ++ x2) acc.toArray (List.replicate k its.toArray) = (acc ++ (List.replicate k its).flatten).toArray
  | 0, acc => by simp
  | k + 1, acc => by
    have e : acc.toArray ++ its.toArray = (acc ++ its).toArray := by simp
    have e2 : (acc ++ its) ++ (List.replicate k its).flatten = acc ++ (List.replicate (k + 1) its).flatten := by
      rw [List.replicate_succ, List.flatten_cons, List.append_assoc]
    rw [← e2, ← foldl_rep its k (acc ++ its), ← e, List.replicate_succ, List.foldl_cons]
section
variable {X : Cx} {pins : List (Addr × Obj)} {σ : St} {H : Hp} {s : Shared} {l b : Addr} {xs ys zs : List V}
theorem Inv.lset {its its' : List Value} {n : Nat} {f : Array Value → Array Value} {t' : Nat} (I : Inv X pins σ H s) (hH : H l = some (.lst xs))
    (e : s.heap.get? l = some { cls := .type "list", data := .seq its.toArray n }) (hf : f its.toArray = its'.toArray) (hv : Vals ys its') (hz : ys.length ≤ sizeLine) :
    Inv X pins σ (upd H l (.lst ys)) { s with heap := s.heap.update l (Obj.mapSeq f), toks := t' } := by
  have q := PySem.IsL.update e f
  rw [hf] at q
  refine I.write (x := l) (e := l) (by rw [hH]; exact trivial) (.inl rfl) (fun b' u hb hu => (Heap.get?_update_other s.heap (Obj.mapSeq f) (Ne.symm hb)).trans hu) ⟨_, q⟩ ?_
  exact ⟨hz, its', _, hv, q⟩
theorem Inv.lnew {its : List Value} {t' : Nat} (I : Inv X pins σ H s) (hv : Vals ys its) (hz : ys.length ≤ sizeLine) :
    Inv X pins σ (upd H s.heap.objs.size (.lst ys)) { s with heap := s.heap.push { cls := .type "list", data := .seq its.toArray }, toks := t' } :=
  I.laid (fun _ _ q => Heap.get?_push_of_some _ q) (Nat.le_refl _) ⟨hz, its, 0, hv, Heap.get?_push_size _ rfl⟩
theorem Inv.fresh (I : Inv X pins σ H s) : H s.heap.objs.size = none := I.hok.fresh (Nat.le_refl _)
theorem Inv.lstM (I : Inv X pins σ H s) (hH : H l = some (.lst xs)) : xs.length ≤ sizeLine ∧ ∃ (its : List Value) (n : Nat), Vals xs its ∧ xs.length = its.length ∧ s.heap.get? l = some { cls := .type "list", data := .seq its.toArray n } := by
  obtain ⟨z, its, n, r, e⟩ := I.hok l _ hH
  exact ⟨z, its, n, r, r.length, e⟩
theorem notLongL {n : Nat} (h : n ≤ sizeLine) : Builtin.List.listTooLong n = false := by
  unfold Builtin.List.listTooLong
  exact decide_eq_false (by omega)
end
section
variable {X : Cx}
def rAppend : V → List V → Hp → VK → Prop := fun x vs H Q => ∃ l xs y, x = .ref l ∧ vs = [y] ∧ H l = some (.lst xs) ∧ xs.length < sizeLine ∧ Q .non (upd H l (.lst (xs ++ [y])))
theorem mt_append : MtM X "list.append" rAppend := by
  intro pins s σ H x vs v us Q I rx rv h
  obtain ⟨l, xs, y, rfl, rfl, hH, hz, q⟩ := h
  cases rx
  obtain ⟨u, rfl, ru⟩ := rv.one
  obtain ⟨z, its, n, r, hl, e⟩ := I.lstM hH
  refine call_meets F.slot_list_append ⟨_, e, rfl⟩ F.entry_list_append (F.args_list_append_2 _ _) (PySem.list_append l its.toArray n u (by rw [List.size_toArray]; omega)) ⟨e, ?_⟩
  refine ⟨.non, _, I.lset (its' := its ++ [u]) hH e (by simp) (r.append (.cons ru .nil)) ?_, rfl, q⟩
  rw [List.length_append, List.length_singleton]
  omega
def rExtend : V → List V → Hp → VK → Prop := fun x vs H Q => ∃ l b xs zs, x = .ref l ∧ vs = [.ref b] ∧ H l = some (.lst xs) ∧ H b = some (.lst zs) ∧ xs.length + zs.length ≤ sizeLine ∧ Q .non (upd H l (.lst (xs ++ zs)))
theorem mt_extend : MtM X "list.extend" rExtend := by
  intro pins s σ H x vs v us Q I rx rv h
  obtain ⟨l, b, xs, zs, rfl, rfl, hH, hB, hz, q⟩ := h
  cases rx
  obtain ⟨u, rfl, ru⟩ := rv.one
  cases ru
  obtain ⟨z, its, n, r, hl, e⟩ := I.lstM hH
  obtain ⟨z2, its2, n2, r2, hl2, e2⟩ := I.lstM hB
  have hsz : its.toArray.size + its2.toArray.size ≤ sizeLine := by rw [List.size_toArray, List.size_toArray]; omega
  have hlong : ¬ (!its.toArray.isEmpty && Builtin.List.listTooLong (its.toArray.size + its2.toArray.size)) = true := by
    rw [notLongL hsz, Bool.and_false]
    exact Bool.false_ne_true
  refine call_meets F.slot_list_extend ⟨_, e, rfl⟩ F.entry_list_extend (F.args_list_extend_2 _ _)
    (AutoSeq1.list_extend_list_list_0 l its.toArray n b its2.toArray n2 hlong (by rw [List.size_toArray]; omega) (by omega)) ⟨e, e2, ?_⟩
  refine ⟨.non, _, I.lset (its' := its ++ its2) hH e (by simp) (r.append r2) ?_, rfl, q⟩
  rw [List.length_append]
  omega
def rPop : V → List V → Hp → VK → Prop := fun x vs H Q => ∃ l xs y, x = .ref l ∧ vs = [] ∧ H l = some (.lst xs) ∧ xs[xs.length - 1]? = some y ∧ Q y (upd H l (.lst xs.dropLast))
def rPopAt : V → List V → Hp → VK → Prop := fun x vs H Q => ∃ l xs i k y, x = .ref l ∧ vs = [.int i] ∧ H l = some (.lst xs) ∧ -(2 ^ 63) ≤ i ∧ i < 2 ^ 63 ∧ seqIndex? i xs.length = some k ∧ xs[k]? = some y ∧ Q y (upd H l (.lst (xs.eraseIdx k)))
def rReverse : V → List V → Hp → VK → Prop := fun x vs H Q => ∃ l xs, x = .ref l ∧ vs = [] ∧ H l = some (.lst xs) ∧ Q .non (upd H l (.lst xs.reverse))
def rClear : V → List V → Hp → VK → Prop := fun x vs H Q => ∃ l xs, x = .ref l ∧ vs = [] ∧ H l = some (.lst xs) ∧ Q .non (upd H l (.lst []))
def rCat : R2 := fun x y H Q => ∃ l b xs zs, x = .ref l ∧ y = .ref b ∧ H l = some (.lst xs) ∧ H b = some (.lst zs) ∧ xs.length + zs.length ≤ sizeLine ∧ ∀ p, H p = none → Q (.ref p) (upd H p (.lst (xs ++ zs)))
theorem op_cat : OpR X (binaryOp .Add) rCat := by
  intro pins s σ H x y v u Q I rx ry h
  obtain ⟨l, b, xs, zs, rfl, rfl, hH, hB, hz, q⟩ := h
  cases rx
  cases ry
  obtain ⟨z, its, n, r, hl, e⟩ := I.lstM hH
  obtain ⟨z2, its2, n2, r2, hl2, e2⟩ := I.lstM hB
  refine PySem.P.add_list e e2 ?_ (by rw [List.size_toArray, List.size_toArray]; omega)
  have ea : its.toArray ++ its2.toArray = (its ++ its2).toArray := by simp
  rw [ea]
  exact ⟨.ref _, _, I.lnew (t' := s.toks) (r.append r2) (by rw [List.length_append]; omega), rfl, q _ I.fresh⟩
def rRep : R2 := fun x y H Q => ∃ l k xs, x = .ref l ∧ y = .int k ∧ H l = some (.lst xs) ∧ -(2 ^ 63) ≤ k ∧ k < 2 ^ 63 ∧ xs.length * k.toNat ≤ sizeLine ∧
  ∀ p, H p = none → Q (.ref p) (upd H p (.lst (List.replicate k.toNat xs).flatten))
theorem len_rep {α : Type} (xs : List α) (k : Nat) : (List.replicate k xs).flatten.length = k * xs.length := by
  induction k with
  | zero => simp
  | succ k ih => rw [List.replicate_succ, List.flatten_cons, List.length_append, ih, Nat.succ_mul, Nat.add_comm]
theorem op_rep : OpR X (binaryOp .Mult) rRep := by
  intro pins s σ H x y v u Q I rx ry h
  obtain ⟨l, k, xs, rfl, rfl, hH, h1, h2, hz, q⟩ := h
  cases rx
  obtain ⟨t, rfl⟩ := ry
  obtain ⟨z, its, n, r, hl, e⟩ := I.lstM hH
  have hlen : its.toArray.size * k.toNat ≤ sizeLine := by rw [List.size_toArray, ← hl]; exact hz
  have hcap : ¬ its.toArray.size * k.toNat > (2 ^ 63 - 1) / 8 := by
    have : (sizeLine : Nat) ≤ (2 ^ 63 - 1) / 8 := by decide
    omega
  have hfit : ¬ (!Builtin.List.listFitsIndex k) = true := by
    rw [fitsIndex_both h1 h2]
    exact Bool.false_ne_true
  have hlong : ¬ Builtin.List.listTooLong (its.toArray.size * k.toNat) = true := by
    rw [notLongL hlen]
    exact Bool.false_ne_true
  have hnew : List.foldl (fun x1 x2 => x1 ++ x2) #[] (List.replicate (if its.toArray.isEmpty = true then 0 else k.toNat) its.toArray) = (List.replicate k.toNat its).flatten.toArray := by
    have f0 : ∀ m : Nat, List.foldl (fun x1 x2 => x1 ++ x2) #[] (List.replicate m its.toArray) = (List.replicate m its).flatten.toArray := fun m => by
      have := foldl_rep its m []
      rw [List.nil_append] at this
      exact this
    rw [f0]
    cases its with
    | nil => simp
    | cons a r' => rw [if_neg (by simp)]
  refine wpAny_binaryOp_repeat_ref (T := "list") (U := "int") (by decide) ⟨_, e, rfl⟩ (fun s' => typeIs_int s' k t) noFill_list_mul F.fills_int_mul F.slot_int_rmul repeat_list F.slot_int_index.lookup
    (call_meets F.slot_int_rmul (typeIs_int s k t) F.entry_int_rmul (F.args_int_rmul_2 _ _) (int___rmul___int_list k t l its.toArray n)
      ⟨e, rfl, ⟨_, e, rfl⟩, call_meets F.slot_list_mul ⟨_, e, rfl⟩ F.entry_list_mul (F.args_list_mul_2 _ _) (AutoListH.list___mul___list_int_3 l its.toArray n k t hfit hcap hlong) ⟨e, ?_⟩⟩)
  rw [hnew]
  exact ⟨.ref _, _, I.lnew (t' := s.toks) (r.rep k.toNat) (by rw [len_rep, Nat.mul_comm]; exact hz), rfl, q _ I.fresh⟩
end
section
variable {prog : Program} {w : World} {A : Around} {E : Value → Shared → Prop} {s : Shared}
set_option maxRecDepth 100000 in
end
section
variable {X : Cx}
end
end L2
namespace Att
open PySem PySem.W PySem.Calls PyProof.Rows
theorem ints_of_wellAll {P : Params} {h : Heap} : ∀ (ns : List Int) (vs : List Value), WellAll P h vs (ns.map WData.int) → IntsAre vs ns := by
  intro ns
  induction ns with
  | nil =>
    intro vs w
    rw [List.map_nil] at w
    cases w
    exact .nil
  | cons n ns ih =>
    intro vs w
    rw [List.map_cons] at w
    cases w with
    | cons a b =>
      cases a
      exact .cons _ _ (ih _ b)
theorem script_of {l : OpenLaw} {n : Nat} (hn : l.most = some n) {P : Params} {h : Heap} {args : List WData} {vals : List Value}
    (hpre : l.row.toRowW.claim.pre args = true) (hwl : WellAll P h vals args) :
    ∃ a vs ns, vals = [Value.ref a] ∧ args = [WData.list (ns.map WData.int)] ∧ h.get? a = some { cls := .type "list", data := .seq vs.toArray } ∧ IntsAre vs ns ∧ ns.length ≤ n := by
  have hsh : WShape.hasAll [] args [.list .int] = true := (pre_splitW hpre).1
  have hc : l.pre.holds [] { args := args } = true := (pre_splitW hpre).2
  obtain ⟨d, r, rfl, h1, h2⟩ := hasAllW_cons hsh
  obtain rfl := hasAllW_nil h2
  obtain ⟨xs, rfl, h3⟩ := hasW_list h1
  obtain ⟨ns, rfl⟩ := items_int h3
  have hlen : ns.length ≤ n := by
    unfold OpenLaw.pre at hc
    have h4 : (WTm.not (.lt (.lit (.int (n : Int))) (.len (.arg 0)))).holds [] { args := [.list (ns.map .int)] } = true := by
      have h4 := (holds_andW hc).1
      rw [hn] at h4
      exact h4
    have h5 := condW_of h4 (w_not (w_lt w_lit (w_len_list (w_arg rfl))))
    rw [List.length_map] at h5
    refine Nat.le_of_not_lt fun q => ?_
    have q' : (n : Int) < ((ns.length : Nat) : Int) := by omega
    first
      | (rw [decide_eq_true q'] at h5; exact absurd h5 (by decide))
      | (simp at h5; omega)
  cases hwl with
  | cons w1 w2 =>
    cases w2
    cases w1 with
    | list ho hall => exact ⟨_, _, ns, rfl, rfl, ho, ints_of_wellAll ns _ hall, hlen⟩
theorem post_true (l : OpenLaw) (args : List WData) : l.row.toRowW.claim.post args (.bool true) args = true :=
  postW_of (r := l.row.toRowW) (X := (true == true))
    (show WShape.has [] (.bool true) .bool = true by first | rfl | decide | simp [WShape.has, WShape.arms, WShape.armsAll])
    (show (WTm.eq .res (.lit (.bool true))).value [] { args := args, res := some (.bool true), after := args } = some (.bool (true == true)) from w_eq_bool (w_res rfl) w_lit) rfl
theorem attach_call {l : OpenLaw} {n : Nat} {q : Program} {loose : List Str} {XP : (Str → Option Value) → Heap → Prop} {YP : World → Heap → Prop} {d : DefRec}
    (hn : l.most = some n) (hdf : d.params.defaults = [])
    (call : ∀ (w : World) (s₀ s₁ : Shared) (mg mb : Str → Option Value) (fa : Addr) (o : Obj) (pm cd doc : Value) (a : Addr) (vs : List Value) (ns : List Int),
      Ground q loose [] XP w s₀ mg mb s₁.heap → YP w s₁.heap →
      s₁.heap.get? fa = some o → o.data = .func (docDef d.name d.params d.body d.scope pm cd doc) → s₁.heap.CodeRec cd d.name → mg d.name = some (.ref fa) →
      s₁.heap.get? a = some { cls := .type "list", data := .seq vs.toArray } → IntsAre vs ns → ns.length ≤ n → s₁.gens = #[] →
      codeAny (model l.prog w) callerA (.call (.ref fa) ⟨[.ref a], []⟩) (fun r s' => r = .ok (.ret (.bool true)) ∧ OldK s₁.heap s'.heap ∧ s'.os = s₁.os ∧ AllBare s'.gens) s₁) :
    WalkO q loose XP YP l.row.toRowW d [] (fun f vs => PySem.call f vs) := by
  intro w s₀ s₁ mg mb G Y fa o pm cd doc dV kV ho hd hcd hD hmg hg args vals as hpre hlay hrd hwl hlo
  obtain rfl : dV = .none := Dflts.none hD hdf
  obtain rfl : kV = .none := Dflts.noKw hD
  obtain ⟨a, vs, ns, rfl, rfl, hobj, hints, hlen⟩ := script_of hn hpre hwl
  refine enter_call (codeAny_mono (call w s₀ s₁ mg mb fa o pm cd doc a vs ns G Y ho (fd_plain hd) hcd hmg hobj hints hlen hg) fun r s' hq => ?_)
  obtain ⟨rfl, h2, h3, h4⟩ := hq
  exact ⟨.inl ⟨.bool true, .bool true, [], rfl, fun _ => rfl, .bool true, post_true l _, fun _ => ⟨List.Pairwise.nil, fun _ hm => (nomatch hm)⟩⟩, h2, h3, h4⟩
section
variable {prog : Program} {w : World} {A : Around} {E : Value → Shared → Prop} {s : Shared} {K : Frag}
def noObjs (h : Heap) : Heap := { h with objs := #[] }
def ledger (h : Heap) (L d : Addr) : List (Addr × Obj) := (List.range h.objs.size).filterMap fun a => if a = L ∨ a = d then none else (h.get? a).map fun o => (a, o)
end
end Att
namespace L2
open PySem PySem.Spec PyProof.Rows
theorem vals_ints : ∀ {vs : List Value} {ns : List Int}, IntsAre vs ns → Vals (ns.map V.int) vs
  | _, _, .nil => .nil
  | _, _, .cons n t h => .cons ⟨t, rfl⟩ (vals_ints h)
def Only (H : Hp) : Prop := ∀ b, H b = none ∨ ∃ o xs, H b = some (.frz o (.lst xs))
theorem law_call {P : Program} {w : World} {K : PySem.W.Frag} {mg mb : Str → Option Value} {CX : CXT} {k : Nat} {fa a : Addr} {fd : FuncData} {x : Str} {sp : Sp} {s₁ : Shared} {vs : List Value} {ns : List Int}
    (KX : K.In s₁.heap) (hns : s₁.heap.Ns mainGlobals mg) (hb : s₁.heap.Ns builtinsNs mb) (hbb : ∀ x : Str, x ≠ "__name__" → mb x = bootBuiltins x) (hlim : s₁.heap.NoLimit) (hg : s₁.gens = #[])
    (ha : s₁.heap.get? a = some { cls := .type "list", data := .seq vs.toArray }) (hi : IntsAre vs ns) (hl : ns.length ≤ sizeLine) (hr : Room k callerA)
    (F : ∀ base : Heap, K.In base → base.Ns mainGlobals mg → FnOk P w K mg base CX k fa fd [x] sp) (hbind : ∀ (s : Shared) (u : Value), BindsTo s fd ⟨[u], []⟩ [(x, u)])
    (hsp : ∀ H : Hp, Only H → SqL K H a (ns.map V.int) → sp [.ref a] H (fun v _ => v = .bl true) fun _ _ _ => False)
    (hCX : ∀ H e s', CX [] H s₁ (fun _ _ _ => False) e s' → False) :
    codeAny (model P w) callerA (.call (.ref fa) ⟨[.ref a], []⟩) (fun r s' => r = .ok (.ret (.bool true)) ∧ OldK s₁.heap s'.heap ∧ s'.os = s₁.os ∧ AllBare s'.gens) s₁ := by
  have rv := vals_ints hi
  have lenV := hi.length
  have core : ∀ H : Hp, Only H → SqL K H a (ns.map V.int) → HOk P w H s₁.heap → (∀ b, H b ≠ none → b = a) → (H a ≠ none → K.lookup a = none) →
      codeAny (model P w) callerA (.call (.ref fa) ⟨[.ref a], []⟩) (fun r s' => r = .ok (.ret (.bool true)) ∧ OldK s₁.heap s'.heap ∧ s'.os = s₁.os ∧ AllBare s'.gens) s₁ := by
    intro H hO hS hok hA hK
    have base_of : ∀ {b : Addr} {o : Obj}, s₁.heap.get? b = some o → H b = none → (hidT s₁.heap H).get? b = some o := fun e n => hidT_get e n
    have noA : ∀ {b : Addr} {o : Obj} {es : Array DictEntry} {ep : Nat}, s₁.heap.get? b = some o → o.data = .dict es ep → H b = none := fun {b o es ep} e d => by
      cases q : H b with
      | none => rfl
      | some u =>
        have e' : b = a := hA b (by rw [q]; simp)
        subst e'
        rw [ha] at e; cases e
        have d' : Data.seq vs.toArray _ = Data.dict es ep := d
        cases d'
    have nsK : ∀ {b : Addr} {m : Str → Option Value}, s₁.heap.Ns b m → (hidT s₁.heap H).Ns b m := fun {b m} ⟨o, es, ep, e, d, r⟩ => ⟨o, es, ep, base_of e (noA e d), d, r⟩
    have hKb : K.In (hidT s₁.heap H) := fun b o e => base_of (KX b o e) (by
      cases q : H b with
      | none => rfl
      | some u =>
        have e' : b = a := hA b (by rw [q]; simp)
        subst e'
        rw [hK (by rw [q]; simp)] at e; cases e)
    have hM : Mod K mg (hidT s₁.heap H) := ⟨hKb, nsK hns, ⟨mb, nsK hb, hbb⟩, let ⟨mc, h1, h2⟩ := hlim; ⟨mc, nsK h1, h2⟩⟩
    have e0 : Env0 P w K mg (hidT s₁.heap H) callerA [] s₁ H := ⟨rfl, hM, fun b o e => of_hidT e, Nat.le_of_eq (hidT_size _ _), trivial, fun b hb => absurd (show b ∈ ([] : List Addr) from hb) (by simp), hok, .of_eq hg⟩
    refine codeAny_mono ((F _ hKb (nsK hns)).run callerA [] s₁ H ⟨[.ref a], []⟩ [.ref a] [.ref a] _ _ hr e0 (hbind s₁ (.ref a)) (.cons rfl .nil) (hsp H hO hS)) fun r s' h => ?_
    cases r with
    | error e => exact (hCX H e s' h).elim
    | ok fl =>
      cases fl with
      | next => exact False.elim h
      | brk => exact False.elim h
      | cont => exact False.elim h
      | ret u =>
        obtain ⟨v, H', os, bare, un, hok', r', q⟩ := h
        have q' : v = .bl true := q
        subst q'
        obtain rfl : u = Value.bool true := r'
        refine ⟨rfl, OldK.of_keep fun b o e => ?_, os, bare⟩
        cases q : H b with
        | none => exact un.keep b o e q (by intro z; exact absurd (show b ∈ ([] : List Addr) from z) (by simp)) (by simp)
        | some u =>
          rcases hO b with z | ⟨ob, xs, z⟩
          · rw [q] at z; cases z
          · have z2 := un.frzs b ob _ z
            obtain ⟨e1, _⟩ := hok b _ z
            obtain ⟨e2, _⟩ := hok' b _ z2
            rw [e] at e1; cases e1
            exact e2
  cases hk : K.lookup a with
  | some o =>
    have e := KX a o hk
    rw [ha] at e
    cases e
    refine core (fun _ => none) (fun _ => .inl rfl) (.inr ⟨_, vs.toArray, _, hk, rfl, rfl, rfl, by rw [List.size_toArray, lenV]; exact hl, by simpa using rv⟩) (fun b u z => by have z' : (none : Option HO) = some u := z; cases z') (fun b z => absurd rfl z) fun z => absurd rfl z
  | none =>
    refine core (fun b => if b = a then some (.frz { cls := .type "list", data := .seq vs.toArray } (.lst (ns.map V.int))) else none) (fun b => ?_) (.inl (.inr ⟨{ cls := .type "list", data := .seq vs.toArray }, if_pos rfl⟩)) (fun b u z => ?_) (fun b z => ?_) fun _ => hk
    · by_cases hb : b = a
      · exact .inr ⟨_, _, if_pos hb⟩
      · exact .inl (if_neg hb)
    · by_cases hb : b = a
      · have z' := (if_pos hb).symm.trans z
        cases z'
        subst hb
        exact ⟨ha, by rw [List.length_map]; exact hl, vs, _, rv, ha⟩
      · have z' := (if_neg hb).symm.trans z
        cases z'
    · by_cases hb : b = a
      · exact hb
      · exact absurd (if_neg hb) z
end L2
namespace L2
open PySem PySem.Spec PyProof.Rows
abbrev KOf {K : PySem.W.Frag} {h : Heap} (_ : K.In h) : PySem.W.Frag := K
theorem walk_of {l : PySem.W.OpenLaw} {n k : Nat} {q : Program} {loose : List Str} {XP : (Str → Option Value) → Heap → Prop} {YP : World → Heap → Prop} {d : DefRec} {K : Params → PySem.W.Frag} {CX : World → CXT} {sp : World → Sp} {x : Str}
    (hn : l.most = some n) (hn2 : n ≤ sizeLine) (hdf : d.params.defaults = []) (hr : Room k callerA)
    (hY : ∀ (w : World) (h : Heap), YP w h → (K w.params).In h)
    (F : ∀ (w : World) (mg : Str → Option Value) (fa : Addr) (h : Heap), (K w.params).In h → h.Ns mainGlobals mg → mg d.name = some (.ref fa) →
      ∃ fd : FuncData, (∀ (s : Shared) (u : Value), BindsTo s fd ⟨[u], []⟩ [(x, u)]) ∧
        ∀ base : Heap, (K w.params).In base → base.Ns mainGlobals mg → FnOk l.prog w (K w.params) mg base (CX w) k fa fd [x] (sp w))
    (hsp : ∀ (w : World) (H : Hp) (a : Addr) (ns : List Int), ns.length ≤ n → Only H → SqL (K w.params) H a (ns.map V.int) → sp w [.ref a] H (fun v _ => v = .bl true) fun _ _ _ => False)
    (hCX : ∀ (w : World) (H : Hp) (s : Shared) (e : Value) (s' : Shared), CX w [] H s (fun _ _ _ => False) e s' → False) :
    PySem.W.WalkO q loose XP YP l.row.toRowW d [] (fun f vs => PySem.call f vs) := by
  refine Att.attach_call hn hdf fun w s₀ s₁ mg mb fa o pm cd doc a vs ns G Y ho hd hcd hmg hobj hints hlen hg => ?_
  have KX := hY w _ Y
  obtain ⟨fd, hb, hF⟩ := F w mg fa _ KX G.T.g hmg
  exact law_call KX G.T.g G.T.b G.T.builtins G.T.nolimit hg hobj hints (Nat.le_trans hlen hn2) hr hF hb (fun H hO hS => hsp w H a ns hlen hO hS) fun H e s' => hCX w H s₁ e s'
end L2
/- THE LAST THEOREM (shape; LID, My.* are yours):
   My.Adr: a structure of the addresses that your layer names (classes, functions); My.Txt K t: a structure (Prop) of the equations over K;
   My.txt_mk : {K} {implicit addresses ..} (e1 : nsIn K mainGlobals "law" = some (some (.ref f))) (e2 : K.lookup f = some ⟨oc, od, .func (fnOf "law" "law" params body scope dV kV doc pm an cdv ct), sl⟩) (e3 : codeIn K cdv "law" = true) .. : ∃ t, My.Txt K t
set_option maxRecDepth 100000 in
set_option maxHeartbeats 0 in
(the tactic k_is has no namespace: write k_is) -/
namespace L2
open PySem PySem.Spec PyProof.Rows
def inClass (s : Stmt) (j : Nat) : Stmt := match s with
  | .ClassDef _ _ _ body _ _ _ _ _ _ _ => body.getD j (.Pass ⟨0, 0, 0, 0⟩)
  | _ => .Pass ⟨0, 0, 0, 0⟩
def defArgs (s : Stmt) : Arguments := match s with
  | .FunctionDef _ a _ _ _ _ _ _ _ _ => a
  | _ => { posonlyargs := [], args := [], vararg := none, kwonlyargs := [], kw_defaults := [], kwarg := none, defaults := [] }
def defBody (s : Stmt) : List Stmt := match s with
  | .FunctionDef _ _ b _ _ _ _ _ _ _ => b
  | _ => []
def defScope (s : Stmt) : Scope := match s with
  | .FunctionDef _ _ _ _ _ _ sc _ _ _ => sc
  | _ => { kind := .function, names := [], isGenerator := false, isCoroutine := false }
abbrev CX0 : CXT := fun _ _ _ _ _ _ => False
abbrev E0 : XK := fun _ _ _ => False
theorem pass0 {X : Cx} : Passes CX0 X E0 := fun _ _ _ _ _ _ _ h => h.elim
structure Fun (K : PySem.W.Frag) (x qual : Str) (st : Stmt) (f : Addr) (fd : FuncData) : Prop where
  ex : ∃ (oc : Value) (od : Option Addr) (kV doc pm : Value) (an : Option Addr) (cdv ct : Value) (osl : Array (Option Value)),
    fd = PySem.W.fnOf x qual (defArgs st) (defBody st) (defScope st) .none kV doc pm an cdv ct ∧ K.lookup f = some ⟨oc, od, .func fd, osl⟩ ∧ PySem.W.codeIn K cdv qual = true
  kp : PySem.W.keepIn K (.ref f) = true
section
variable {P : Program} {w : World} {K : PySem.W.Frag} {mg : Str → Option Value} {base : Heap}
theorem Fun.ok {x qual : Str} {st : Stmt} {f : Addr} {fd : FuncData} {N ps : List Str} {k : Nat} {sp : Sp} (F : Fun K x qual st f fd) (S : FnScope N ps (defScope st)) (len : ∀ vs H Q E, sp vs H Q E → vs.length = ps.length)
    (hbody : ∀ (cdv : Value) (A : Around) (outer : List Env) (s : Shared) (H : Hp) (vs : List V) (Q : VK) (E : XK), Room k (A.deeper (envOfC qual (defScope st) s.heap.objs.size f cdv)) → sp vs H Q E →
      ∃ t, PSs (cxOf CX0 P w K mg base N qual (defScope st) f cdv A outer s H E).nox (defBody st) t ∧ t { nx := fun _ H' => Q .non H', rt := Q } (start N vs) H) : FnOk P w K mg base CX0 (k + 1) f fd ps sp := by
  obtain ⟨oc, od, kV, doc, pm, an, cdv, ct, osl, rfl, lk, hcd⟩ := F.ex
  refine fn_of lk hcd S len fun A outer s H vs Q E hr hsp => ?_
  obtain ⟨t, h, q⟩ := hbody cdv A outer s H vs Q E hr hsp
  exact ⟨t, h.nox, q⟩
theorem Fun.binds {x qual : Str} {st : Stmt} {f : Addr} {fd : FuncData} {ps : List Str} (F : Fun K x qual st f fd)
    (h : ∀ (kV doc pm : Value) (an : Option Addr) (cdv ct : Value) (us : List Value), us.length = ps.length → bindArgs (PySem.W.fnOf x qual (defArgs st) (defBody st) (defScope st) .none kV doc pm an cdv ct) ⟨us, []⟩ = pure (ps.zip us)) : Binds K fd ps [] := by
  obtain ⟨oc, od, kV, doc, pm, an, cdv, ct, osl, rfl, lk, hcd⟩ := F.ex
  exact .all (h kV doc pm an cdv ct)
theorem fun_mk {x qual : Str} {st : Stmt} {f : Addr} {oc : Value} {od an : Option Addr} {osl : Array (Option Value)} {kV doc pm cdv ct : Value} (l : K.lookup f = some ⟨oc, od, .func (PySem.W.fnOf x qual (defArgs st) (defBody st) (defScope st) .none kV doc pm an cdv ct), osl⟩)
    (c : PySem.W.codeIn K cdv qual = true) (k : PySem.W.keepIn K (.ref f) = true) : Fun K x qual st f (PySem.W.fnOf x qual (defArgs st) (defBody st) (defScope st) .none kV doc pm an cdv ct) := ⟨⟨oc, od, kV, doc, pm, an, cdv, ct, osl, rfl, l, c⟩, k⟩
end
section
variable {X : Cx}
theorem pv (i : Nat) {x : Str} {pos : Pos} (hN : X.N[i]? = some x := by rfl) (hv : Vis X.env.scope x := by first | exact Or.inl rfl | exact Or.inr (Or.inl rfl) | exact Or.inr (Or.inr rfl)) (hd : (x == ("__debug__" : Str)) = false := by decide)
    (hcd : (x == ("__classdict__" : Str)) = false := by decide) : PE X (.Name x pos) (tVar i) := pe_var hN hv hd hcd
end
theorem iteF {A B : Prop} (h : B) : if false = true then A else B := by
  rw [if_neg Bool.false_ne_true]
  exact h
theorem iteT {A B : Prop} (h : A) : if true = true then A else B := by
  rw [if_pos rfl]
  exact h
theorem ite2 {c A B : Prop} [Decidable c] (h1 : c → A) (h2 : ¬ c → B) : if c then A else B := by
  by_cases h : c
  · rw [if_pos h]
    exact h1 h
  · rw [if_neg h]
    exact h2 h
def Same (H H' : Hp) : Prop := ∀ b o, H b = some o → H' b = some o
theorem Same.refl (H : Hp) : Same H H := fun _ _ h => h
theorem Same.trans {H H1 H2 : Hp} (a : Same H H1) (b : Same H1 H2) : Same H H2 := fun c o h => b c o (a c o h)
theorem Same.free {H H' : Hp} (e : Same H H') {l : Addr} (h : H' l = Option.none) : H l = Option.none := by
  cases q : H l with
  | none => rfl
  | some o =>
    rw [e l o q] at h
    cases h
theorem Same.seq {K : PySem.W.Frag} {H H' : Hp} {a : Addr} {xs : List V} (e : Same H H') (h : SqL K H a xs) : SqL K H' a xs := by
  rcases h with (h | ⟨o, h⟩) | h
  · exact .inl (.inl (e _ _ h))
  · exact .inl (.inr ⟨o, e _ _ h⟩)
  · exact .inr h
end L2
namespace L2
open PySem PySem.Spec PyProof.Rows
theorem ObjOk.here {P : Program} {w : World} {H : Hp} {h : Heap} {a : Addr} {o : HO} (x : ObjOk P w H h a o) : ∃ ob, h.get? a = some ob := by
  cases o with
  | lst xs => obtain ⟨_, _, _, _, e⟩ := x; exact ⟨_, e⟩
  | tup xs => obtain ⟨_, _, _, ob, e, _⟩ := x; exact ⟨_, e⟩
  | dK kvs => obtain ⟨_, _, _, _, ob, _, _, e, _⟩ := x; exact ⟨_, e⟩
  | dT kvs => obtain ⟨_, _, _, _, ob, _, _, e, _⟩ := x; exact ⟨_, e⟩
  | set S n => obtain ⟨ob, _, _, _, e, _⟩ := x; exact ⟨_, e⟩
  | ins C dx fs => obtain ⟨_, _, _, e, _⟩ := x; exact ⟨_, e⟩
  | own y => exact x
  | xd fs => obtain ⟨_, ⟨_, _, _, e, _⟩, _⟩ := x; exact ⟨_, e⟩
  | rng lo hi => obtain ⟨_, _, _, e⟩ := x; exact ⟨_, e⟩
  | frz ob u => obtain ⟨e, _⟩ := x; exact ⟨_, e⟩
  | tbl ps => exact ⟨_, x⟩
  | met f y => exact ⟨_, x⟩
  | ext φ => obtain ⟨_, e, _⟩ := x; exact e
structure Fly (base : Heap) (outer : List Env) (H : Hp) (s h : Heap) (e : Addr) (cls : Value) : Prop where
  stays : base.StaysIn h
  frames : h.FunFrames base outer
  baseE : base.get? e = none
  newE : s.get? e = none
  freeE : H e = none
  tr : ∃ oe vs T oT ts, h.get? e = some oe ∧ oe.cls = cls ∧ oe.data = .fields vs ∧ vs[1]? = some (.ref T) ∧ T ≠ e ∧ h.get? T = some oT ∧ oT.data = .fields ts ∧ ts[3]? = some .none ∧ base.get? T = none ∧ s.get? T = none ∧ H T = none
def CXe (P : Program) (w : World) (base : Heap) : CXT := fun outer H s E e s' =>
  ∃ (ea C : Addr) (H' : Hp), e = .ref ea ∧ s'.os = s.os ∧ AllBare s'.gens ∧ Un (frs outer) [] H H' s.heap s'.heap ∧ HOk P w H' s'.heap ∧ Fly base outer H' s.heap s'.heap ea (.ref C) ∧ E (.ref C) none H'
section
variable {X : Cx} {pins : List (Addr × Obj)} {σ : St} {H : Hp} {s : Shared} {e : Addr} {cls : Value}
end
end L2
namespace L2
open PySem PySem.Spec PyProof.Rows
section
variable {X : Cx} {pins : List (Addr × Obj)} {σ : St} {H H' : Hp} {s s' : Shared} {e : Addr} {cls : Value}
end
section
variable {P : Program} {w : World} {K : PySem.W.Frag} {mg : Str → Option Value} {base : Heap} {N : List Str} {qual : Str} {scope : Scope} {f : Addr} {cd : Value} {A : Around} {outer : List Env} {s : Shared} {H : Hp} {E : XK}
def Throws (X : Cx) (E : XK) : Prop := ∀ (pins : List (Addr × Obj)) (σ : St) (H : Hp) (s : Shared) (h' : Heap) (e C : Addr) (vs : List Value), Inv X pins σ H s → Heap.MadeExcOf s.heap h' e (.ref C) vs → E (.ref C) none H → X.xe (.ref e) { s with heap := h' }
end
end L2
namespace My
open PySem PySem.Spec PySem.Calls PySem.W PyProof.Rows PySem.Builtin PySem.Builtin.ObjectAttr PySem.Builtin.Getset_descriptor
def ClsAt (x D : Addr) (h : Heap) : Prop := ∃ o, h.get? x = some o ∧ o.cls = .ref D
theorem clsAt_ty {x D : Addr} (M : Model) (h : Heap) (p : ClsAt x D h) : Looks M h (typeOf (.ref x)) (.ref D) := by
  obtain ⟨o, a, b⟩ := p
  exact b ▸ (Looks.ld a).andThen .now
theorem find_data {K : Frag} {M : Model} {h : Heap} (X : K.In h) {x D : Addr} {name : Str} {g a : Value} (ha : findIn K (.ref D) name = some (some a)) (hn : specialIn K a "__get__" = some (some g)) (htk : takesIn K a = some true) :
    Looks M h (find (.ref x) (.ref D) name) (.bind g a) :=
  (looks_findIn X ha).andThen ((show Looks M h (getOf (some a)) (some g) from looks_specialIn X hn).andThen ((show Looks M h (dataDescriptor? (some a) (some g)) (some (g, a)) from (looks_takesIn X htk).andThen .now).andThen (Looks.tag .now)))
section
variable {prog : Program} {w : World} {A : Around} {E : Value → Shared → Prop} {s : Shared} {K : Frag} {x D : Addr} {R : Result → Shared → Prop}
theorem class_of {tp : Value} (X : K.In s.heap) (p : ClsAt x D s.heap) (hm : mroIn K D (.type "object") = some true) (h : R (.ok (.ret (.ref D))) s) :
    codeAny (model prog w) A (.call (.builtin "getset_descriptor.__get__") ⟨[.builtin "object.__class__", .ref x, tp], []⟩) R s := by
  obtain ⟨h0, g0, d0, t0, o0⟩ := s
  have T0 := clsAt_ty (model prog w) h0 p
  have T1 := looks_mroIn (M := model prog w) X hm
  refine codeAny_call_builtin KF.slot_gs.plain KF.entry_gs (KF.slot_gs.check _ _ _ _ _ _ _ _ KF.type_class (KF.args_gs _ _ _) ?_)
  unfold Builtin.«getset_descriptor.__get__» descrGet
  rw [dga_obj]
  refine wpAny_bind (wpAny_pure ?_)
  unfold descrGetter descrCheckInstance descrNameAndClass isInstance
  simp only [KF.owner_class]
  repeat lk
  refine ⟨Code.quiet_builtin _ (by decide +kernel), codeAny_builtin KF.entry_class ?_⟩
  unfold Builtin.«object.__class__» shownTypeOf
  repeat lk
  exact h
theorem ga_check {M : Model} {Q : Unit → Shared → Prop} {nameV : Value} {h0 : Heap} {g0 : Array GenState} {d0 : Drawn} {t0 : Nat} {o0 : OsState} (T0 : Looks M h0 (typeOf (.ref x)) (.ref D)) (TS : Looks M h0 (isSubtype (.ref D) (.type "BaseException")) true) (hq : Q () ⟨h0, g0, d0, t0, o0⟩) :
    wpAny M A (checkBuiltinCall "BaseException.__getattribute__" ⟨[.ref x, nameV], []⟩) Q E ⟨h0, g0, d0, t0, o0⟩ := by
  have e1 : builtinKind "BaseException.__getattribute__" = some .slot := by decide +kernel
  have e2 : splitId "BaseException.__getattribute__" = some ("BaseException", "__getattribute__") := by decide +kernel
  have e3 := F.args_bexc_ga (.ref x) nameV
  simp only [checkBuiltinCall, e1, e2]
  refine wpAny_bind ?_
  unfold isInstance
  repeat (first | lk | wp_step)
  exact hq
theorem ga_entry {Q : Fin → Shared → Prop} {tk : Tok} {h0 : Heap} {g0 : Array GenState} {d0 : Drawn} {t0 : Nat} {o0 : OsState} (X : K.In h0) (p : ClsAt x D h0) (ha : findIn K (.ref D) "__class__" = some (some (.builtin "object.__class__")))
    (hn : specialIn K (.builtin "object.__class__") "__get__" = some (some (.builtin "getset_descriptor.__get__"))) (htk : takesIn K (.builtin "object.__class__") = some true) (hm : mroIn K D (.type "object") = some true) (hq : Q (.done (.ret (.ref D))) ⟨h0, g0, d0, t0, o0⟩) :
    wpAny (model prog w) A (Builtin.«object.__getattribute__» ⟨[.ref x, .str "__class__" tk], []⟩) Q E ⟨h0, g0, d0, t0, o0⟩ := by
  have T0 := clsAt_ty (model prog w) h0 p
  have T2 := find_data (M := model prog w) X (x := x) ha hn htk
  unfold Builtin.«object.__getattribute__»
  refine wpAny_bind (wpAny_pure ?_)
  repeat (first | (with_reducible refine wpAny_bind (T0.at ?_)) | (with_reducible refine wpAny_bind (T2.at ?_)) | wp_step)
  refine class_of (s := ⟨h0, g0, d0, t0, o0⟩) X p hm ?_
  repeat (any_goals (first | assumption | wp_step))
theorem class_attr {Q : Option Value → Shared → Prop} (hg : findIn K (.ref D) "__getattribute__" = some (some (.builtin "BaseException.__getattribute__"))) (hgg : findIn K (.ref D) "__getattr__" = some none) (hsb : subIn K (.ref D) (.type "BaseException") = some true) (ha : findIn K (.ref D) "__class__" = some (some (.builtin "object.__class__")))
    (hn : specialIn K (.builtin "object.__class__") "__get__" = some (some (.builtin "getset_descriptor.__get__"))) (htk : takesIn K (.builtin "object.__class__") = some true) (hm : mroIn K D (.type "object") = some true)
    (X : K.In s.heap) (p : ClsAt x D s.heap) (h : Q (some (.ref D)) { s with toks := s.toks + 1 }) : wpAny (model prog w) A (getAttr? (.ref x) "__class__") Q E s := by
  obtain ⟨h0, g0, d0, t0, o0⟩ := s
  have T0 := clsAt_ty (model prog w) h0 p
  have T1 := looks_findIn (M := model prog w) X hg
  have T3 := looks_findIn (M := model prog w) X hgg
  have TS := looks_subIn (M := model prog w) X hsb
  have f3 := F.excAttr_ValueError.ga.bind (.ref x)
  have hx2 : (Value.builtin "BaseException.__getattribute__" == Value.builtin "object.__getattribute__") = false := by decide +kernel
  have hx1 : (onTheHeap (Value.ref D) && Value.builtin "BaseException.__getattribute__" == Value.builtin "object.__getattribute__") = false := by rw [hx2]; rfl
  unfold getAttr? getAttrBy? getAttrBy
  refine wpAny_bind (wpAny_mkText (wpAny_bind (wpAny_attempt (wpAny_holding (wpAny_bind (T0.at (wpAny_bind (T1.at ?_))))))))
  dsimp only
  rw [if_neg (by rw [hx1]; exact Bool.false_ne_true)]
  unfold getAttrByItsOwn hookBefore
  rw [if_pos (show onTheHeap (Value.ref D) = true from rfl)]
  refine wpAny_bind (T3.at ?_)
  repeat (any_goals (first | assumption | wp_step | lk))
  refine codeAny_call_builtin F.excAttr_ValueError.ga.plain F.entry_bexc_ga (ga_check T0 TS (ga_entry (K := K) X p ha hn htk hm ?_))
  repeat (any_goals (first | assumption | wp_step))
theorem kitx_exc (hg : findIn K (.ref D) "__getattribute__" = some (some (.builtin "BaseException.__getattribute__"))) (hgg : findIn K (.ref D) "__getattr__" = some none) (hsb : subIn K (.ref D) (.type "BaseException") = some true) (hd : hasDictIn K D = true) (ha : findIn K (.ref D) "__class__" = some (some (.builtin "object.__class__")))
    (hn : specialIn K (.builtin "object.__class__") "__get__" = some (some (.builtin "getset_descriptor.__get__"))) (htk : takesIn K (.builtin "object.__class__") = some true) (hm : mroIn K D (.type "object") = some true) :
    KitX K (.ref x) (.ref D) (ClsAt x D) where
  ty := fun M h _ p => clsAt_ty M h p
  it := fun M h X _ => by
    obtain ⟨c, hc, _⟩ := any_some hd
    unfold clsIn at hc
    split at hc
    · rename_i u1 u2 u3 u4 ho
      intro A' Q' E' s' k q
      unfold isType loadHead; exact wpAny_bind (wpAny_loadPart (k _ _ (X _ _ ho)) (wpAny_pure q))
    · cases hc
  ne := fun h tp dd its n sl X e => by
    obtain ⟨c, hc, _⟩ := any_some hd
    refine Bool.eq_false_iff.mpr fun q => ?_
    obtain rfl : D = tp := Value.ref.inj (beq_iff_eq.mp q)
    unfold clsIn at hc
    split at hc
    · rename_i u1 u2 u3 u4 ho
      have z := (X _ _ ho).symm.trans e; cases z
    · cases hc
  ca := fun X p k => class_attr hg hgg hsb ha hn htk hm X p k
end
end My
namespace L2
open PySem PySem.Spec PyProof.Rows
section
variable {X : Cx} {pins : List (Addr × Obj)} {σ : St} {H H' : Hp} {s s' : Shared} {e C : Addr}
structure Mid (X : Cx) (H' : Hp) (s : Heap) (s' : Heap) (e C : Addr) (B : Heap) (a0 : Value) (T : Addr) (h : Heap) : Prop where
  fly : Heap.FlyingW B (X.env :: X.outer) e (.ref C) a0 h
  slots : s'.UpToSlots h
theorem mid_inv {B h : Heap} {a0 : Value} {T : Addr} (I : Inv X pins σ H s) (hst : X.stack = X.env :: X.outer)
    (u : Un (frs X.stack) [] H H' s.heap s'.heap) (hok : HOk X.prog X.w H' s'.heap) (bare : AllBare s'.gens) (os : s'.os = s.os) (fl : Fly X.base X.stack H' s.heap s'.heap e (.ref C))
    (nT : s.heap.get? T = none) (fT : H' T = none) (hB : ∀ b o, b ∉ e :: T :: frs X.stack → s'.heap.get? b = some o → B.get? b = some o) (hfl : B.StaysIn h) (hsl : s'.heap.UpToSlots h) :
    Inv X pins σ H' { s' with heap := h } := by
  obtain ⟨y1, y2, y3, y4, y5, _⟩ := fl
  have fdat : ∀ b ∈ frs X.stack, ∃ o, s'.heap.get? b = some o ∧ ∀ vs, o.data ≠ .fields vs := fun b hb => (y2.mem hb).2
  have keep : ∀ b o, b ∉ frs X.stack → b ≠ e → b ≠ T → s'.heap.get? b = some o → h.get? b = some o := fun b o n n1 n2 q => hfl b o (hB b o (by simp [n, n1, n2]) q)
  have slot : ∀ b o, b ∈ frs X.stack → s'.heap.get? b = some o → ∃ sl, h.get? b = some { o with slots := sl } := fun b o hb q => by
    obtain ⟨o', q', nf⟩ := fdat b hb
    rw [q] at q'; cases q'
    exact hsl b o q nf
  have old : ∀ b o, s.heap.get? b = some o → b ≠ e ∧ b ≠ T := fun b o q => ⟨fun z => (by rw [z, y4] at q; cases q), fun z => (by rw [z, nT] at q; cases q)⟩
  have funt : ∀ b ∈ frs X.stack, H' b = none := fun b hb => by
    obtain ⟨_, o, ho, _⟩ := I.stack.mem hb
    exact u.free b o ho (I.stkFree b hb) (by simp)
  have trk : ∀ b o, H' b = some o → b ∉ frs X.stack ∧ b ≠ e ∧ b ≠ T := fun b o q => ⟨fun hb => (by rw [funt b hb] at q; cases q), fun z => (by rw [z, y5] at q; cases q), fun z => (by rw [z, fT] at q; cases q)⟩
  refine I.call' (s' := { s' with heap := h }) (ch := []) os ⟨fun b o q n hb _ => ?_, fun b o q n hb _ => ?_, u.free, fun b o q _ => ?_, u.tups, u.frzs, u.tbls⟩ (fun b o q => ?_) bare (fun b z => absurd z (by simp))
  · exact keep b o hb (old b o q).1 (old b o q).2 (u.keep b o q n hb (by simp))
  · obtain ⟨sl, q1⟩ := u.slot b o q n hb (by simp)
    obtain ⟨sl', q2⟩ := slot b _ hb q1
    exact ⟨sl', q2⟩
  · obtain ⟨o', q1⟩ := u.there b o q (by simp)
    by_cases hb : b ∈ frs X.stack
    · obtain ⟨sl, q2⟩ := slot b o' hb q1
      exact ⟨_, q2⟩
    · exact ⟨_, keep b o' hb (old b o q).1 (old b o q).2 q1⟩
  · exact (hok b o q).stay (fun c v hc r => by
      have z : c ∉ frs X.stack ∧ c ≠ e ∧ c ≠ T := by
        rcases hc with rfl | hc
        · exact trk _ _ q
        · exact trk _ _ hc
      exact keep c v z.1 z.2.1 z.2.2 r) (fun _ z => z) fun _ _ z => z
end
end L2
namespace L2
open PySem PySem.Spec PyProof.Rows
section
variable {X : Cx} {pins : List (Addr × Obj)} {σ : St} {H H' : Hp} {s s' : Shared} {e C : Addr}
def Landed (X : Cx) (pins : List (Addr × Obj)) (σ : St) (H' : Hp) (e C : Addr) (s1 : Shared) : Prop :=
  ∃ (H : Hp) (s s' : Shared) (B : Heap) (a0 : Value) (T : Addr), Inv X pins σ H s ∧ Un (frs X.stack) [] H H' s.heap s'.heap ∧ HOk X.prog X.w H' s'.heap ∧ AllBare s'.gens ∧ s'.os = s.os ∧ Fly X.base X.stack H' s.heap s'.heap e (.ref C) ∧
    s.heap.get? T = none ∧ H' T = none ∧ (∀ b o, b ∉ e :: T :: frs X.stack → s'.heap.get? b = some o → B.get? b = some o) ∧ Heap.FlyingW B (X.env :: X.outer) e (.ref C) a0 s1.heap ∧ s'.heap.UpToSlots s1.heap ∧ s1 = { s' with heap := s1.heap }
theorem Landed.inv {s1 : Shared} (l : Landed X pins σ H' e C s1) (hst : X.stack = X.env :: X.outer) : Inv X pins σ H' s1 := by
  obtain ⟨H, s, s', B, a0, T, I, u, hok, bare, os, fl, nT, fT, hB, hfl, hsl, es⟩ := l
  rw [es]
  exact mid_inv (a0 := a0) I hst u hok bare os fl nT fT hB hfl.1 hsl
theorem Landed.cls {s1 : Shared} (l : Landed X pins σ H' e C s1) : My.ClsAt e C s1.heap := by
  obtain ⟨H, s, s', B, a0, T, I, u, hok, bare, os, fl, nT, fT, hB, hfl, hsl, es⟩ := l
  exact hfl.there
theorem Landed.free {s1 : Shared} (l : Landed X pins σ H' e C s1) : H' e = none := by
  obtain ⟨H, s, s', B, a0, T, I, u, hok, bare, os, fl, _⟩ := l
  exact fl.freeE
theorem Landed.again {s1 : Shared} {M : Model} {A : Around} {E : Value → Shared → Prop} {Q : Unit → Shared → Prop} (l : Landed X pins σ H' e C s1) (h : ∀ s2, Landed X pins σ H' e C s2 → Q () s2) : wpAny M A (setFlight (.ref e) none) Q E s1 := by
  obtain ⟨H, s, s', B, a0, T, I, u, hok, bare, os, fl, nT, fT, hB, hfl, hsl, es⟩ := l
  refine lands_againW hfl fun h' f2 u2 => h _ ⟨H, s, s', B, a0, T, I, u, hok, bare, os, fl, nT, fT, hB, f2, hsl.trans u2, ?_⟩
  show ({ s1 with heap := h' } : Shared) = { s' with heap := h' }
  rw [es]
end
end L2
namespace L2
open PySem PySem.Spec PyProof.Rows
abbrev Cx.exc (X : Cx) (e : Addr) : Cx := { X with A := X.A.mark (some (.ref e)), calm := false, xe := fun _ _ => False }
theorem Cx.Ok.exc {X : Cx} (ok : X.Ok) (e : Addr) : (X.exc e).Ok :=
  ⟨ok.mod, ok.kind, ok.glob, ok.blt, ok.above, ok.inj, ok.has, ok.cab, (fun z => nomatch z), ok.frames, ok.stk, ok.exf, ok.bs, ok.bsz, ok.noex, ok.exfs, ok.funs, ok.frf⟩
section
variable {X : Cx} {pins : List (Addr × Obj)} {σ : St} {H H' : Hp} {s s' : Shared} {e C : Addr}
theorem Inv.exc (I : Inv X pins σ H s) (e : Addr) : Inv (X.exc e) pins σ H s := ⟨I.ok.exc e, I.os, I.bare, I.base, I.loc, I.cell, I.free, I.freeC, I.pin, I.hok, I.len⟩
def excO (e C : Addr) : HO := .ext (My.ClsAt e C)
theorem Landed.held {s1 : Shared} (l : Landed X pins σ H' e C s1) (hst : X.stack = X.env :: X.outer) : Inv X pins σ (upd H' e (excO e C)) s1 := by
  have J := l.inv hst
  have fe := l.free
  obtain ⟨oe, he, hc⟩ := l.cls
  obtain ⟨H, s, s', B, a0, T, I, u, hok, bare, os, fl, _⟩ := l
  have ne : ∀ b o, s.heap.get? b = some o → b ≠ e := fun b o q z => by rw [z, fl.newE] at q; cases q
  have ne0 : ∀ b o, X.s₀.heap.get? b = some o → b ∉ X.ex → b ≠ e := fun b o q hx => by
    obtain ⟨o', q1⟩ := I.base.there b o q hx
    exact ne b o' q1
  have neH : ∀ b o, H' b = some o → b ≠ e := fun b o q z => by rw [z, fe] at q; cases q
  refine ⟨J.ok, J.os, J.bare, ⟨J.base.keep, J.base.slot, fun b o q n hx => ?_, J.base.there, fun b xs q => ?_, fun b o x q => ?_, fun b ps q => ?_⟩, J.loc, J.cell, ?_, fun x c q => ?_, fun p hp => ?_, fun b o q => ?_, J.len⟩
  · rw [upd_ne (ne0 b o q hx)]; exact J.base.free b o q n hx
  · have z := J.base.tups b xs q
    rw [upd_ne (neH _ _ z)]; exact z
  · have z := J.base.frzs b o x q
    rw [upd_ne (neH _ _ z)]; exact z
  · obtain ⟨m, z⟩ := J.base.tbls b ps q
    exact ⟨m, by rw [upd_ne (neH _ _ z)]; exact z⟩
  · obtain ⟨m, ⟨o, _, _, ho, _⟩, _⟩ := I.loc
    rw [upd_ne (ne _ o ho)]; exact J.free
  · obtain ⟨v, o, ho, _⟩ := I.cell x c q
    rw [upd_ne (ne _ o ho)]; exact J.freeC x c q
  · obtain ⟨q1, q2, q3, q4, q5⟩ := J.pin p hp
    obtain ⟨r1, _⟩ := I.pin p hp
    exact ⟨q1, by rw [upd_ne (ne _ _ r1)]; exact q2, q3, q4, q5⟩
  · by_cases hb : b = e
    · subst hb
      rw [upd_same] at q; cases q
      refine ⟨⟨oe, he, hc⟩, ⟨oe, he⟩, fun h1 h2 p k => ?_⟩
      obtain ⟨o1, p1, p2⟩ := p
      exact ⟨o1, k o1 p1, p2⟩
    · rw [upd_ne hb] at q
      exact (J.hok b o q).stay (fun c v _ r => r) (fun c r => by rw [upd_ne (neH _ _ r)]; exact r) fun c xs r => by rw [upd_ne (neH _ _ r)]; exact r
def PH (X : Cx) (hs : List ExceptHandler) (th : Addr → Addr → TS) : Prop :=
  ∀ (pins : List (Addr × Obj)) (s1 : Shared) (σ : St) (H' : Hp) (e C : Addr) (D : Ends), Landed X pins σ H' e C s1 → th e C D σ H' → wpAny (model X.prog X.w) X.A (handleBy (.ref e) X.env hs) (SP X pins D) X.xe s1
def hAs (K : PySem.W.Frag) (B : Addr) (i : Nat) (t : Addr → TS) (tr : Addr → Addr → TS) : Addr → Addr → TS := fun e C D σ H' => ∃ b, PySem.W.exmOne K (.ref C) (.ref B) = some b ∧
  if b = true then t e { nx := fun σ' H2 => D.nx (σ'.set i none) H2, rt := D.rt, bk := fun σ' H2 => D.bk (σ'.set i none) H2, ct := fun σ' H2 => D.ct (σ'.set i none) H2 } (σ.set i (some (.ref e))) (upd H' e (excO e C)) else tr e C D σ H'
def hNo (K : PySem.W.Frag) (B : Addr) (t : Addr → TS) (tr : Addr → Addr → TS) : Addr → Addr → TS := fun e C D σ H' => ∃ b, PySem.W.exmOne K (.ref C) (.ref B) = some b ∧
  if b = true then t e D σ (upd H' e (excO e C)) else tr e C D σ H'
def caughtBy (X : Cx) (pins : List (Addr × Obj)) (R : Addr → St → Hp → Prop) : Value → Shared → Prop := fun ev s' =>
  ∃ (σ : St) (H : Hp) (s : Shared) (E : XK), Inv X pins σ H s ∧ CXe X.prog X.w X.base X.stack H s E ev s' ∧ ∀ C H', E (.ref C) none H' → R C σ H'
end
end L2
namespace L2
open PySem PySem.Spec PyProof.Rows
def trX (X : Cx) (pins : List (Addr × Obj)) (σ₀ : St) (R : Addr → Hp → Prop) : Value → Shared → Prop := fun ev s' =>
  ∃ (H : Hp) (s : Shared) (E : XK), Inv X pins σ₀ H s ∧ CXe X.prog X.w X.base X.stack H s E ev s' ∧ ∀ C H', E (.ref C) none H' → R C H'
abbrev Cx.tr (X : Cx) (pins : List (Addr × Obj)) (σ₀ : St) (R : Addr → Hp → Prop) : Cx := { X with pn := X.pn ++ pins, xe := trX X pins σ₀ R }
def XE (R : Addr → Hp → Prop) : XK := fun c _ H' => ∃ C, c = .ref C ∧ R C H'
section
variable {X : Cx} {pins : List (Addr × Obj)} {σ σ₀ : St} {H H' : Hp} {s s' : Shared} {R : Addr → Hp → Prop}
theorem Cx.Ok.tr (ok : X.Ok) : (X.tr pins σ₀ R).Ok :=
  ⟨ok.mod, ok.kind, ok.glob, ok.blt, ok.above, ok.inj, ok.has, ok.cab, ok.hd, ok.frames, ok.stk, ok.exf, ok.bs, ok.bsz, ok.noex, ok.exfs, ok.funs, ok.frf⟩
theorem Inv.tr (I : Inv X pins σ H s) : Inv (X.tr pins σ₀ R) [] σ H s :=
  ⟨I.ok.tr, I.os, I.bare, I.base, I.loc, I.cell, I.free, I.freeC, fun p hp => I.pin p (by simpa using hp), I.hok, I.len⟩
def PS1 (X : Cx) (σ₀ : St) (st : Stmt) (t : TS) : Prop :=
  ∀ (pins : List (Addr × Obj)) (s : Shared) (H : Hp) (D : Ends), Inv X pins σ₀ H s → t D σ₀ H → wpAny (model X.prog X.w) X.A (exec st X.env) (SP X pins D) X.xe s
def PE1 (X : Cx) (σ₀ : St) (e : Expr) (t : TE) : Prop :=
  ∀ (pins : List (Addr × Obj)) (s : Shared) (H : Hp) (Q : VK), Inv X pins σ₀ H s → t σ₀ H Q → wpAny (model X.prog X.w) X.A (eval e X.env) (EP X pins σ₀ Q) X.xe s
def Passes1 (CX : CXT) (X : Cx) (σ₀ : St) (E : XK) : Prop := ∀ (pins : List (Addr × Obj)) (H : Hp) (s : Shared) (e : Value) (s' : Shared), Inv X pins σ₀ H s → CX X.stack H s E e s' → X.xe e s'
theorem Passes.one {CX : CXT} {E : XK} (h : Passes CX X E) : Passes1 CX X σ₀ E := fun pins H s e s' I q => h pins σ₀ H s e s' I q
theorem run_fn1 {CX : CXT} {k : Nat} {f : Addr} {fd : FuncData} {ps : List Str} {sp : Sp} {dvs : List V} {ds : List Value} {E : XK} {Q : VK} {us : List Value} {vs : List V} (F : FnOk X.prog X.w X.K X.mg X.base CX k f fd ps sp) (hr : Room k X.A) (hb : Binds X.K fd ps ds) (hd : Vals dvs ds) (hx : Passes1 CX X σ₀ E)
    (I : Inv X pins σ₀ H s) (r : Vals vs us) (h : sp (vs ++ dvs) H Q E) : wpAny (model X.prog X.w) X.A (call (.ref f) us) (EP X pins σ₀ Q) X.xe s := by
  have r2 : Vals (vs ++ dvs) (us ++ ds) := r.append hd
  have hl : (us ++ ds).length = ps.length := by rw [← r2.length]; exact F.len _ _ _ _ h
  refine wpAny_call (codeAny_mono (F.run X.A X.stack s H ⟨us, []⟩ (us ++ ds) (vs ++ dvs) Q E hr I.env0 (hb s us I.kIn hl) r2 h) fun r s' hq => ?_)
  cases r with
  | error e => exact hx pins H s e s' I hq
  | ok fl =>
    cases fl with
    | ret u => exact I.after hq
    | next => exact False.elim hq
    | brk => exact False.elim hq
    | cont => exact False.elim hq
structure Disp (P : Program) (w : World) (K : PySem.W.Frag) (mg : Str → Option Value) (base : Heap) (CX : CXT) (k : Nat) (m : Str) (ps : List Str) (sp : Sp) (C : Addr) : Prop where
  cl : Cls K C
  to : ∃ (f : Addr) (fd : FuncData), Meth K C m f ∧ FnOk P w K mg base CX k f fd ps sp ∧ Binds K fd ps []
def tMethD (Ds : Addr → Prop) (m : Str) (sp : Sp) (E : XK) (ta : TE) (t : TA) : TE := fun σ H Q => ta σ H fun x H1 => ∃ a C dx fs, x = .ref a ∧ H1 a = some (.ins C dx fs) ∧ Ds C ∧ fs.lookup m = none ∧ t σ H1 fun vs H2 => sp (x :: vs) H2 Q E
theorem PE1.all {e : Expr} {t : TE} (h : ∀ σ₀, PE1 X σ₀ e t) : PE X e t := fun pins s σ H Q I q => h σ pins s H Q I q
def tTry (t : (Addr → Hp → Prop) → TS) (th : Addr → Addr → TS) : TS := fun D σ H => ∃ R : Addr → Hp → Prop, t R D σ H ∧ ∀ e C H', H' e = none → R C H' → th e C D σ H'
end
end L2
namespace L2
open PySem PySem.Spec PyProof.Rows
def TopDict (w : World) (K : PySem.W.Frag) (a : Addr) : Prop := ∃ es n, K.lookup a = some ⟨.type "dict", none, .dict es n, #[]⟩ ∧ PySem.W.KeysLit w.params es.toList
section
variable {X : Cx} {a : Addr} {ke : Expr} {tk : TE} {p pos : Pos} {D : Str}
def tTop (K : PySem.W.Frag) (a : Addr) (tk : TE) : TE := fun σ H Q => tk σ H fun x H1 => ∃ (k : Str) (u : Value) (v : V), x = .str k ∧ PySem.W.nsIn K a k = some (some u) ∧ RelV v u ∧ Q v H1
def rTopIn (w : World) (K : PySem.W.Frag) : R2 := fun x y H Q => ∃ (k : Str) (a : Addr) (r : Option Value), x = .str k ∧ y = .ref a ∧ TopDict w K a ∧ (a == sysModules) = false ∧ PySem.W.nsIn K a k = some r ∧ Q (.bl r.isSome) H
def tCallV (P : Program) (w : World) (K : PySem.W.Frag) (mg : Str → Option Value) (base : Heap) (CX : CXT) (k : Nat) (E : XK) (tf : TE) (t : TA) : TE := fun σ H Q => tf σ H fun x H1 => ∃ (f : Addr) (fd : FuncData) (ps : List Str) (sp : Sp), x = .ref f ∧ FnOk P w K mg base CX k f fd ps sp ∧ PySem.W.keepIn K (.ref f) = true ∧ Binds K fd ps [] ∧ t σ H1 fun vs H2 => sp vs H2 Q E
end
end L2
namespace L2
open PySem PySem.Spec PyProof.Rows
section
variable {X : Cx}
def rIxTop (w : World) (K : PySem.W.Frag) : R2 := fun x y H Q => ∃ (a : Addr) (k : Str) (u : Value) (v : V), x = .ref a ∧ y = .str k ∧ TopDict w K a ∧ PySem.W.nsIn K a k = some (some u) ∧ RelV v u ∧ Q v H
structure ExcCls (K : PySem.W.Frag) (C : Addr) : Prop where
  hg : PySem.W.findIn K (.ref C) "__getattribute__" = some (some (.builtin "BaseException.__getattribute__"))
  hgg : PySem.W.findIn K (.ref C) "__getattr__" = some none
  hsb : PySem.W.subIn K (.ref C) (.type "BaseException") = some true
  hd : PySem.W.hasDictIn K C = true
  ha : PySem.W.findIn K (.ref C) "__class__" = some (some (.builtin "object.__class__"))
  hn : PySem.W.specialIn K (.builtin "object.__class__") "__get__" = some (some (.builtin "getset_descriptor.__get__"))
  ht : PySem.W.takesIn K (.builtin "object.__class__") = some true
  hm : PySem.W.mroIn K C (.type "object") = some true
def TyX (K : PySem.W.Frag) (H : Hp) (x : V) (t : Value) : Prop := TyOf K H x t ∨ ∃ e C, x = .ref e ∧ H e = some (excO e C) ∧ t = .ref C ∧ ExcCls K C
def rIsi (K : PySem.W.Frag) : List V → Hp → VK → Prop := fun vs H Q => ∃ (x c : V) (cv t : Value) (b : Bool), vs = [x, c] ∧ RelV c cv ∧ (∀ u, RelV c u → u = cv) ∧ TyX K H x t ∧ PySem.W.kitOne K t cv = some b ∧ Q (.bl b) H
theorem call_isinst : CallR X (.builtin "isinstance") (rIsi X.K) := by
  intro pins s σ H xs us Q I r h
  obtain ⟨x, c, cv, t, b, rfl, rc, ic, ty, e, q⟩ := h
  obtain ⟨u, w', rfl, ru, rw'⟩ := vals2 r
  cases ic w' rw'
  rcases ty with ty | ⟨ea, C, rfl, he, rfl, ec⟩
  · exact isinst_ok I ru ty e fun tk => ⟨.bl b, H, I.tok _, rfl, q⟩
  · cases (show u = Value.ref ea from ru)
    obtain ⟨p, _⟩ := (show ObjOk X.prog X.w H s.heap ea (excO ea C) from I.hok ea _ he)
    exact PySem.W.kia_one (My.kitx_exc ec.hg ec.hgg ec.hsb ec.hd ec.ha ec.hn ec.ht ec.hm) I.kIn p e (fun z => nomatch z) fun tk => ⟨.bl b, H, I.tok _, rfl, q⟩
end
theorem passF {P : Program} {w : World} {base : Heap} {X : Cx} : Passes (CXe P w base) X E0 := fun _ _ _ _ _ _ _ h => by
  obtain ⟨_, _, _, _, _, _, _, _, _, q⟩ := h
  exact q.elim
section
variable {P : Program} {w : World} {K : PySem.W.Frag} {mg : Str → Option Value} {base : Heap}
theorem Fun.okE {x qual : Str} {st : Stmt} {f : Addr} {fd : FuncData} {N ps : List Str} {k : Nat} {sp : Sp} (F : Fun K x qual st f fd) (S : FnScope N ps (defScope st)) (len : ∀ vs H Q E, sp vs H Q E → vs.length = ps.length)
    (hbody : ∀ (cdv : Value) (A : Around) (outer : List Env) (s : Shared) (H : Hp) (vs : List V) (Q : VK) (E : XK), Room k (A.deeper (envOfC qual (defScope st) s.heap.objs.size f cdv)) → sp vs H Q E →
      ∃ t, PSs (cxOf (CXe P w base) P w K mg base N qual (defScope st) f cdv A outer s H E) (defBody st) t ∧ t { nx := fun _ H' => Q .non H', rt := Q } (start N vs) H) : FnOk P w K mg base (CXe P w base) (k + 1) f fd ps sp := by
  obtain ⟨oc, od, kV, doc, pm, an, cdv, ct, osl, rfl, lk, hcd⟩ := F.ex
  exact fn_of lk hcd S len fun A outer s H vs Q E hr hsp => hbody cdv A outer s H vs Q E hr hsp
def DefIn (K : PySem.W.Frag) (mg : Str → Option Value) (x : Str) (st : Stmt) (ps : List Str) : Prop := ∃ (f : Addr) (fd : FuncData), mg x = some (.ref f) ∧ Fun K x x st f fd ∧ Binds K fd ps []
theorem defIn_mk {h : Heap} {x : Str} {st : Stmt} {ps : List Str} {f : Addr} {oc : Value} {od an : Option Addr} {osl : Array (Option Value)} {kV doc pm cdv ct : Value} (X : K.In h) (G : h.Ns mainGlobals mg)
    (a : PySem.W.nsIn K mainGlobals x = some (some (.ref f))) (l : K.lookup f = some ⟨oc, od, .func (PySem.W.fnOf x x (defArgs st) (defBody st) (defScope st) .none kV doc pm an cdv ct), osl⟩)
    (c : PySem.W.codeIn K cdv x = true) (k : PySem.W.keepIn K (.ref f) = true)
    (b : ∀ (kV doc pm : Value) (an : Option Addr) (cdv ct : Value) (us : List Value), us.length = ps.length → bindArgs (PySem.W.fnOf x x (defArgs st) (defBody st) (defScope st) .none kV doc pm an cdv ct) ⟨us, []⟩ = pure (ps.zip us)) : DefIn K mg x st ps :=
  ⟨f, _, PySem.W.mg_of X G a, fun_mk l c k, (fun_mk l c k).binds b⟩
def Ok (P : Program) (w : World) (K : PySem.W.Frag) (mg : Str → Option Value) (base : Heap) (CX : CXT) (k : Nat) (x : Str) (ps : List Str) (sp : Sp) : Prop :=
  ∃ (f : Addr) (fd : FuncData), mg x = some (.ref f) ∧ PySem.W.keepIn K (.ref f) = true ∧ Binds K fd ps [] ∧ FnOk P w K mg base CX k f fd ps sp
theorem Ok.mono {CX : CXT} {j k : Nat} {x : Str} {ps : List Str} {sp : Sp} (o : Ok P w K mg base CX j x ps sp) (h : j ≤ k) : Ok P w K mg base CX k x ps sp := by
  obtain ⟨f, fd, a, b, c, d⟩ := o
  exact ⟨f, fd, a, b, c, d.mono h⟩
end
theorem pe_ok {X : Cx} {CX : CXT} {k : Nat} {x : Str} {ps : List Str} {sp : Sp} {E : XK} {p pos : Pos} {e : Expr} {es : List Expr} {t : TA} (o : Ok X.prog X.w X.K X.mg X.base CX k x ps sp) (hr : Room k X.A) (hg : Gl X x) (hx : Passes CX X E) (ha : PA X (e :: es) t)
    (hdb : (x == ("__debug__" : Str)) = false := by decide) (he : starEach (e :: es) X.env = (false, eval e X.env) :: starEach es X.env := by rfl) (hpl : (backTo pos (starEach es X.env)).any (·.1) = false := by rfl) :
    PE X (.Call (.Name x p) (e :: es) [] pos) (tCall sp [] E t) := by
  obtain ⟨f, fd, a, b, c, d⟩ := o
  exact pe_call d hr hg a b c .nil hx ha hdb he hpl
end L2
namespace L2
open PySem PySem.Spec PyProof.Rows
section
variable {X : Cx}
def rEqI (K : PySem.W.Frag) : R2 := fun x y H Q => ∃ (p q : Addr) (ns ms : List Int), x = .ref p ∧ y = .ref q ∧ SqL K H p (ns.map V.int) ∧ SqL K H q (ms.map V.int) ∧ Q (.bl (decide (ns = ms))) H
end
def sp1 (g : Int → V) : Sp := fun vs H Q _ => ∃ n, vs = [.int n] ∧ Q (g n) H
def sp2 (C : Int → Int → Prop) (g : Int → Int → Int) : Sp := fun vs H Q _ => ∃ a b, vs = [.int a, .int b] ∧ C a b ∧ Q (.int (g a b)) H
end L2
namespace L2
open PySem PySem.Spec PyProof.Rows
theorem pe_gref {X : Cx} {x : Str} {a : Addr} {pos : Pos} (hm : X.mg x = some (.ref a)) (hg : Gl X x := by rfl) (hd : (x == ("__debug__" : Str)) = false := by decide) : PE X (.Name x pos) (tC (.ref a)) := pe_glob hg hm (v := .ref a) rfl hd
theorem pe_bty {X : Cx} {x : Str} {n : String} {pos : Pos} (hm : X.mg x = none) (hv : bootBuiltins x = some (.type n)) (hg : Gl X x := by rfl) (hn : x ≠ "__name__" := by decide) (hd : (x == ("__debug__" : Str)) = false := by decide) : PE X (.Name x pos) (tC (.ty n)) := pe_bltn hg hm hv (v := .ty n) rfl hn hd
end L2
namespace L2
open PySem PySem.Spec PyProof.Rows
abbrev Cx.comp (X : Cx) (scope : Scope) (cl : List (Str × Addr)) (NY : List Str) (s3 : Shared) (H3 : Hp) (fp : List Addr) : Cx :=
  { X with N := NY, s₀ := s3, H₀ := H3, env := compEnvC scope cl s3.heap.objs.size X.env, outer := X.stack, ex := fp, fn := fun _ => false, pn := [], xe := fun _ _ => False }
structure Sees (X : Cx) (scope : Scope) (cl : List (Str × Addr)) : Prop where
  kind : scope.kind = .function
  clos : closureFor scope X.env = pure cl
  nocell : ∀ y ∈ scope.names, y.2 ≠ .cell
  names : ∀ y ∈ scope.names, y.2 = .local → scope.names.lookup y.1 = some .local
  sub : ∀ x c, cl.lookup x = some c → X.env.cells.lookup x = some c
  has : ∀ x, ((compEnvC scope cl 0 X.env).kindOf x = some .cell ∨ (compEnvC scope cl 0 X.env).kindOf x = some .free) → ∃ c, cl.lookup x = some c
section
variable {X : Cx} {pins : List (Addr × Obj)} {σ : St} {H3 : Hp} {s3 : Shared} {scope : Scope} {cl : List (Str × Addr)} {NY : List Str} {fp : List Addr}
theorem comp_ok (I : Inv X pins σ H3 s3) (S : Sees X scope cl) (hfp : ∀ b ∈ fp, FpOk X pins H3 b) (hob : ∀ b ∈ fp, ∃ o, s3.heap.get? b = some o) : (X.comp scope cl NY s3 H3 fp).Ok where
  mod := I.ok.mod
  kind := S.kind
  glob := I.ok.glob
  blt := I.ok.blt
  above := Nat.le_refl _
  inj := fun x y c a b => I.ok.inj x y c (S.sub _ _ a) (S.sub _ _ b)
  has := fun x h => S.has x h
  cab := fun _ _ h => nomatch h
  hd := I.ok.hd
  frames := I.ok.frames
  stk := .inl rfl
  exf := fun b hb => ⟨fun z => by
    obtain ⟨o, q⟩ := hob b hb
    exact absurd (Heap.lt_size q) (by rw [z]; exact Nat.lt_irrefl _), fun x c q => (hfp b hb).2.2.2.2.1 x c (S.sub _ _ q)⟩
  bs := I.bs
  bsz := Nat.le_trans I.ok.bsz I.sz
  noex := fun b o q hb => by
    rcases (hfp b hb).2.2.2.1 with z | z
    · exact I.ok.noex b o q z
    · exact absurd (Nat.lt_of_lt_of_le (Heap.lt_size q) (Nat.le_trans I.ok.bsz z)) (Nat.lt_irrefl _)
  exfs := fun b hb z => by
    rcases List.mem_cons.mp (I.stkSub b z) with y | y
    · exact (hfp b hb).2.1 y
    · exact (hfp b hb).2.2.1 y
  funs := I.stack
  frf := I.stkFree
theorem comp_inv {h1 : Heap} {t : Nat} {σY : St} (I : Inv X pins σ H3 s3) (S : Sees X scope cl) (hfp : ∀ b ∈ fp, FpOk X pins H3 b) (hob : ∀ b ∈ fp, ∃ o, s3.heap.get? b = some o)
    (hn : h1.Ns s3.heap.objs.size fun _ => none) (hk : ∀ b o, s3.heap.get? b = some o → h1.get? b = some o) (hl : σY.length = NY.length)
    (hσ : ∀ (i : Nat) (x : Str) (v : V), NY[i]? = some x → σY[i]? = some (some v) → ∃ c u, (((compEnvC scope cl 0 X.env).kindOf x = some .cell ∨ (compEnvC scope cl 0 X.env).kindOf x = some .free)) ∧ cl.lookup x = some c ∧ RelV v u ∧ s3.heap.IsCell c (some u)) :
    Inv (X.comp scope cl NY s3 H3 fp) [] σY H3 { s3 with heap := h1, toks := t } where
  ok := comp_ok I S hfp hob
  os := rfl
  bare := I.bare
  base := Un.kept hk
  loc := ⟨_, hn, fun i x v e1 e2 _ => by
    obtain ⟨c, u, k, q, r, z⟩ := hσ i x v e1 e2
    obtain ⟨o, z1, z2⟩ := z
    exact ⟨u, r, .inr ⟨k, c, q, o, hk _ _ z1, z2⟩⟩⟩
  cell := fun x c q => by
    obtain ⟨v, o, z1, z2⟩ := I.cell x c (S.sub _ _ q)
    exact ⟨v, o, hk _ _ z1, z2⟩
  free := I.hok.fresh (Nat.le_refl _)
  freeC := fun x c q => I.freeC x c (S.sub _ _ q)
  pin := fun p hp => absurd hp (by simp)
  hok := I.hok.kept hk
  len := hl
theorem comp_back {Y : List (Addr × Obj)} {σY : St} {H' : Hp} {s' : Shared} {h' : Heap} (I : Inv X pins σ H3 s3) (hfp : ∀ b ∈ fp, FpOk X pins H3 b) (J : Inv (X.comp scope cl NY s3 H3 fp) Y σY H' s') (hs : Heap.SameBut s3.heap.objs.size s'.heap h') :
    Inv X pins σ H' { s' with heap := h' } := by
  have ne : ∀ b o, s3.heap.get? b = some o → b ≠ s3.heap.objs.size := fun b o q => Nat.ne_of_lt (Heap.lt_size q)
  have B := J.base
  refine I.call' (s' := { s' with heap := h' }) (ch := fp) J.os ⟨fun b o q n hb hx => ?_, fun b o q n hb hx => ?_, B.free, fun b o q hx => ?_, B.tups, B.frzs, B.tbls⟩ (fun b o q => ?_) J.bare fun b hb => ?_
  · exact (hs.2 b (ne b o q)).trans (B.keep b o q n hb hx)
  · obtain ⟨sl, z⟩ := B.slot b o q n hb hx
    exact ⟨sl, (hs.2 b (ne b o q)).trans z⟩
  · obtain ⟨o', z⟩ := B.there b o q hx
    exact ⟨o', (hs.2 b (ne b o q)).trans z⟩
  · have hf : H' s3.heap.objs.size = none := J.free
    refine (J.hok b o q).stay (fun c v hc r => (hs.2 c ?_).trans r) (fun _ z => z) fun _ _ z => z
    rintro rfl
    rcases hc with z | z
    · rw [← z, hf] at q; cases q
    · rw [hf] at z; cases z
  · obtain ⟨_, f2, _, f4, f5, f6⟩ := hfp b hb
    exact ⟨f4, f2, f5, f6⟩
end
end L2
namespace L2
open PySem PySem.Spec PyProof.Rows
section
variable {prog : Program} {w : World} {A : Around} {R : Result → Shared → Prop} {s : Shared}
theorem comp_loop {elt target iter : Expr} {scope : Scope} {pos : Pos} {it acc : Value} {env : Env} (I : Nat → Shared → Prop)
    (turn : ∀ n s, I n s → wpAny (model prog w) A (pyNext it) (fun r s₁ => match r with
      | none => R (.ok .next) s₁
      | some v => wpAny (model prog w) A (letOwnedTupleGo target it v) (fun _ s₂ => wpAny (model prog w) A (assign target env v) (fun _ s₃ => wpAny (model prog w) A (eval elt env) (fun x s₄ =>
          wpAny (model prog w) A (call (.builtin "list.append") [acc, x]) (fun _ s₅ => ∃ m, m < n ∧ I m s₅) (fun _ _ => False) s₄) (fun _ _ => False) s₃) (fun _ _ => False) s₂) (fun _ _ => False) s₁) (fun _ _ => False) s)
    (n : Nat) (h : I n s) : codeAny (model prog w) A (.compLoop (.ListComp elt [⟨target, iter, [], 0⟩] scope pos) 0 it acc env) R s := by
  refine codeAny_loop rfl I (fun n s hI => ?_) n h
  show wpAny _ _ ((compTurn (.ListComp elt [⟨target, iter, [], 0⟩] scope pos) 0 it acc env).onRaise (fun x => do noteFrame x env; theTreesLotGoes x)) _ _ s
  refine wpAny_noted ?_
  rw [compTurn_list1]
  refine wpAny_bind (wpAny_standAt (wpAny_bind (wpAny_mono (turn n s hI) (fun r s₁ h₁ => ?_) fun _ _ z => z.elim)))
  cases r with
  | none => exact wpAny_pure h₁
  | some v =>
    refine wpAny_bind (wpAny_mono h₁ (fun _ s₂ h₂ => ?_) fun _ _ z => z.elim)
    refine wpAny_bind (wpAny_mono h₂ (fun _ s₃ h₃ => ?_) fun _ _ z => z.elim)
    refine wpAny_bind (wpAny_bind (wpAny_mono h₃ (fun x s₄ h₄ => ?_) fun _ _ z => z.elim))
    exact wpAny_bind (wpAny_mono h₄ (fun _ s₅ h₅ => wpAny_pure (wpAny_pure ⟨rfl, h₅⟩)) fun _ _ z => z.elim)
end
def CompW (J : It) (g : TG) (te : TE) (σY : St) (H1 : Hp) (D : Addr) (Q : VK) : Prop := ∃ W : Nat → Nat → St → Hp → Prop, (∃ m, W 0 m σY H1) ∧ ∀ i m σ' H', W i m σ' H' →
  (J.stop i H' ∧ Q (.ref D) H') ∨ (J.go i H' ∧ ∃ N : St → Hp → Prop, (∀ σ2 H2, N σ2 H2 → ∃ m', m' < m ∧ W (i + 1) m' σ2 H2) ∧
    ∀ x H2, J.yld i H' x H2 → g x σ' H2 fun σ3 H3 => te σ3 H3 fun v H4 => ∃ xs, H4 D = some (.lst xs) ∧ xs.length < sizeLine ∧ N σ3 (upd H4 D (.lst (xs ++ [v]))))
def tComp (wi : TI) (g : TG) (te : TE) (σ0 : St → Hp → St → Prop) : TE := fun σ H Q => wi σ H fun J H1 => ∃ σY, σ0 σ H1 σY ∧ ∀ D, H1 D = none → CompW J g te σY (upd H1 D (.lst [])) D Q
section
variable {X : Cx} {tg : Expr}
structure CompEnd (X : Cx) (pins : List (Addr × Obj)) (σ : St) (H5 : Hp) (s6 : Shared) (C : Addr) : Prop where
  ns : ∃ m, s6.heap.Ns C m
  hn : H5 C = none
  hL : C ≠ X.env.locals
  h1 : X.s₀.heap.objs.size ≤ C
  h2 : ∀ x c, X.env.cells.lookup x = some c → c ≠ C
  h3 : ∀ p ∈ X.pn ++ pins, p.1 ≠ C
  inv : ∀ h', Heap.SameBut C s6.heap h' → Inv X pins σ H5 { s6 with heap := h' }
theorem comp_core {iter elt : Expr} {scope : Scope} {pos pos' : Pos} {cl : List (Str × Addr)} {NY : List Str} {wi : TI} {g : TG} {te : TE} {σ0 : St → Hp → St → Prop} (hc : X.calm = true) (S : Sees X scope cl) (hi : PI X tg iter wi)
    (hY : ∀ (s3 : Shared) (H3 : Hp) (fp : List Addr), PG (X.comp scope cl NY s3 H3 fp) tg g ∧ PE (X.comp scope cl NY s3 H3 fp) elt te)
    (h0 : ∀ (pins : List (Addr × Obj)) (σ : St) (H : Hp) (s3 : Shared) (σY : St), Inv X pins σ H s3 → σ0 σ H σY → σY.length = NY.length ∧ ∀ (i : Nat) (x : Str) (v : V), NY[i]? = some x → σY[i]? = some (some v) →
      ∃ c u, (((compEnvC scope cl 0 X.env).kindOf x = some .cell ∨ (compEnvC scope cl 0 X.env).kindOf x = some .free)) ∧ cl.lookup x = some c ∧ RelV v u ∧ s3.heap.IsCell c (some u))
    (hs : ∀ x, foldedSetIterable iter X.env x = pure x) {use : Option (Value → Sem Unit)} {R : Value → Shared → Prop} {pins : List (Addr × Obj)} {s : Shared} {σ : St} {H : Hp} {Q : VK} (I : Inv X pins σ H s) (h : tComp wi g te σ0 σ H Q)
    (fin : ∀ (C D : Addr) (H5 : Hp) (s6 : Shared), CompEnd X pins σ H5 s6 C → Q (.ref D) H5 → compPost (model X.prog X.w) X.A X.xe use R (.ref D) C (.ok .next) s6) :
    wpAny (model X.prog X.w) X.A (comprehension (.ListComp elt [⟨tg, iter, [], 0⟩] scope pos) scope X.env pos' (newList []) (firstAsync [⟨tg, iter, [], 0⟩]) (firstIter [⟨tg, iter, [], 0⟩] X.env) use) R X.xe s := by
  refine wpAny_comprehension_free rfl hs S.clos S.kind S.names (thn (hi pins s σ H _ I h) fun v s1 h1 => thn h1 fun itv s2 h2 => ?_)
  obtain ⟨it, fp, tn, J, H2, e, I2, T, st2, f2, σY, hσ, hW⟩ := h2
  subst e
  refine wpAny_newObj_type ?_
  have I3 : Inv X pins σ (upd H2 s2.heap.objs.size (.lst [])) { s2 with heap := s2.heap.push { cls := .type "list", data := .seq ([] : List Value).toArray } } := I2.lnew (t' := s2.toks) (its := []) .nil (Nat.zero_le _)
  obtain ⟨W, ⟨m0, w0⟩, turn⟩ := hW s2.heap.objs.size (I2.hok.fresh (Nat.le_refl _))
  have ob2 := T.obj _ _ st2
  have hfp : ∀ b ∈ fp, FpOk X pins (upd H2 s2.heap.objs.size (.lst [])) b := fun b hb => by
    obtain ⟨o, q, _⟩ := ob2 b hb
    exact ⟨by rw [upd_ne (Nat.ne_of_lt (Heap.lt_size q))]; exact (f2 b hb).1, (f2 b hb).2⟩
  have hob : ∀ b ∈ fp, ∃ o, (s2.heap.push { cls := .type "list", data := .seq ([] : List Value).toArray }).get? b = some o := fun b hb => by
    obtain ⟨o, q, _⟩ := ob2 b hb
    exact ⟨o, Heap.get?_push_of_some _ q⟩
  refine wpAny_newFunctionEnv S.nocell (fun y hy => absurd hy (by simp)) (fun h1 hn1 hs1 => ?_) S.kind
  obtain ⟨hl, hY0⟩ := h0 pins σ H2 s2 σY I2 hσ
  have k23 : ∀ b o, s2.heap.get? b = some o → (s2.heap.push { cls := .type "list", data := .seq ([] : List Value).toArray }).get? b = some o := fun b o q => Heap.get?_push_of_some _ q
  have k34 : ∀ b o, (s2.heap.push { cls := .type "list", data := .seq ([] : List Value).toArray }).get? b = some o → h1.get? b = some o := fun b o q => (hs1.2 b (Nat.ne_of_lt (Heap.lt_size q))).trans (Heap.get?_push_of_some _ q)
  have I4 := comp_inv (scope := scope) (cl := cl) (NY := NY) (fp := fp) (h1 := h1) (t := s2.toks) (σY := σY) I3 S hfp hob hn1 k34 hl fun i x v e1 e2 => by
    obtain ⟨c, u, k, q, r, o, z1, z2⟩ := hY0 i x v e1 e2
    exact ⟨c, u, k, q, r, o, k23 _ _ z1, z2⟩
  have st4 : tn 0 h1 := T.keep _ _ _ st2 fun b hb o q => k34 _ _ (k23 _ _ q)
  have fr4 : ∀ b ∈ fp, (upd H2 s2.heap.objs.size (.lst [])) b = none := fun b hb => (hfp b hb).1
  obtain ⟨hg, he⟩ := hY { s2 with heap := s2.heap.push { cls := .type "list", data := .seq ([] : List Value).toArray } } (upd H2 s2.heap.objs.size (.lst [])) fp
  have okY := I4.ok
  have statY : ∀ {H' : Hp}, (∀ b ∈ fp, H' b = none) → ∀ b ∈ fp, FpOk (X.comp scope cl NY { s2 with heap := s2.heap.push { cls := .type "list", data := .seq ([] : List Value).toArray } } (upd H2 s2.heap.objs.size (.lst [])) fp) [] H' b :=
    fun hn b hb => ⟨hn b hb, (okY.exf b hb).1, okY.exfs b hb, .inl hb, (okY.exf b hb).2, fun p hp => absurd hp (by simp)⟩
  have loop : codeAny (model X.prog X.w) X.A (.compLoop (.ListComp elt [⟨tg, iter, [], 0⟩] scope pos) 0 (.ref it) (.ref s2.heap.objs.size) (compEnvC scope cl (s2.heap.push { cls := .type "list", data := .seq ([] : List Value).toArray }).objs.size X.env))
      (compPost (model X.prog X.w) X.A X.xe use R (.ref s2.heap.objs.size) (s2.heap.push { cls := .type "list", data := .seq ([] : List Value).toArray }).objs.size) { s2 with heap := h1, toks := s2.toks } := by
    refine comp_loop (fun n s' => ∃ i σ' H', Inv (X.comp scope cl NY { s2 with heap := s2.heap.push { cls := .type "list", data := .seq ([] : List Value).toArray } } (upd H2 s2.heap.objs.size (.lst [])) fp) [] σ' H' s' ∧ tn i s'.heap ∧ (∀ b ∈ fp, H' b = none) ∧ W i n σ' H') ?_ m0 ⟨0, σY, _, I4, st4, fr4, w0⟩
    rintro n s5 ⟨i, σ5, H5, I5, st5, fr5, w5⟩
    rcases turn i n σ5 H5 w5 with ⟨stop, q⟩ | ⟨go, N, hN, step⟩
    · refine thn (T.done (X.comp scope cl NY { s2 with heap := s2.heap.push { cls := .type "list", data := .seq ([] : List Value).toArray } } (upd H2 s2.heap.objs.size (.lst [])) fp) rfl rfl rfl hc i [] s5 σ5 H5 _ I5 (statY fr5) st5 stop) fun r s6 ⟨hr, I6⟩ => ?_
      subst hr
      obtain ⟨m, hm, _⟩ := I6.loc
      refine fin _ _ H5 s6 ⟨⟨m, hm⟩, I6.free, Ne.symm (Nat.ne_of_lt I3.lt), I3.sz, fun x c z => ?_, fun p hp => ?_, fun h' hs' => comp_back I3 hfp I6 hs'⟩ q
      · obtain ⟨_, o, z1, _⟩ := I3.cell x c z
        exact Nat.ne_of_lt (Heap.lt_size z1)
      · exact Nat.ne_of_lt (Heap.lt_size (I3.pin p hp).1)
    · refine thn (T.item (X.comp scope cl NY { s2 with heap := s2.heap.push { cls := .type "list", data := .seq ([] : List Value).toArray } } (upd H2 s2.heap.objs.size (.lst [])) fp) rfl rfl rfl hc i [] s5 σ5 H5 _ I5 (statY fr5) st5 go) fun r s6 ⟨u, hr, h6⟩ => ?_
      subst hr
      refine thn h6 fun _ s7 ⟨x, H7, I7, r7, y7, st7, fr7⟩ => ?_
      have I7' := I7.pinned (statY fr7) (T.obj _ _ st7)
      refine thn (hg _ s7 σ5 H7 x u _ I7' r7 (step x H7 y7)) fun _ s8 ⟨σ8, H8, I8, q8⟩ => ?_
      refine thn (he _ s8 σ8 H8 _ I8 q8) fun z s9 ⟨v9, H9, I9, r9, xs, hx9, hz9, n9⟩ => ?_
      refine thn (mt_append _ s9 σ8 H9 (.ref s2.heap.objs.size) [v9] (.ref s2.heap.objs.size) [z] (fun _ H' => H' = upd H9 s2.heap.objs.size (.lst (xs ++ [v9]))) I9 rfl (.cons r9 .nil) ⟨s2.heap.objs.size, xs, v9, rfl, rfl, hx9, hz9, rfl⟩) fun y s10 ⟨v10, H10, I10, _, e10⟩ => ?_
      subst e10
      obtain ⟨m', hm, w10⟩ := hN _ _ n9
      refine ⟨m', hm, i + 1, σ8, _, I10.unpinned, T.keep _ _ _ st7 fun b hb o q => (I10.pin (b, o) (List.mem_append_right _ (List.mem_append_right _ (mem_pinsAt hb q)))).1, fun b hb => ?_, w10⟩
      obtain ⟨o, q, d⟩ := T.obj _ _ st7 b hb
      exact (I10.pin (b, o) (List.mem_append_right _ (List.mem_append_right _ (mem_pinsAt hb q)))).2.1
  exact codeAny_compStart_list loop (T.self _ 0 _ _ _ st4 loop)
theorem pe_comp {iter elt : Expr} {scope : Scope} {pos : Pos} {cl : List (Str × Addr)} {NY : List Str} {wi : TI} {g : TG} {te : TE} {σ0 : St → Hp → St → Prop} (hc : X.calm = true) (S : Sees X scope cl) (hi : PI X tg iter wi)
    (hY : ∀ (s3 : Shared) (H3 : Hp) (fp : List Addr), PG (X.comp scope cl NY s3 H3 fp) tg g ∧ PE (X.comp scope cl NY s3 H3 fp) elt te)
    (h0 : ∀ (pins : List (Addr × Obj)) (σ : St) (H : Hp) (s3 : Shared) (σY : St), Inv X pins σ H s3 → σ0 σ H σY → σY.length = NY.length ∧ ∀ (i : Nat) (x : Str) (v : V), NY[i]? = some x → σY[i]? = some (some v) →
      ∃ c u, (((compEnvC scope cl 0 X.env).kindOf x = some .cell ∨ (compEnvC scope cl 0 X.env).kindOf x = some .free)) ∧ cl.lookup x = some c ∧ RelV v u ∧ s3.heap.IsCell c (some u))
    (hs : ∀ x, foldedSetIterable iter X.env x = pure x := by intro _; rfl) :
    PE X (.ListComp elt [⟨tg, iter, [], 0⟩] scope pos) (tComp wi g te σ0) := by
  intro pins s σ H Q I h
  rw [eval_ListComp]
  refine comp_core (use := none) hc S hi hY h0 hs I h fun C D H5 s6 e q => ?_
  obtain ⟨m, hm⟩ := e.ns
  exact ⟨m, hm, fun h' hs' => ⟨.ref D, H5, e.inv h' hs', rfl, q⟩⟩
theorem ps_comp {iter elt : Expr} {scope : Scope} {pos pos' spos : Pos} {cl : List (Str × Addr)} {NY : List Str} {wi : TI} {g : TG} {te : TE} {σ0 : St → Hp → St → Prop} {i : Nat} {y : Str} (hc : X.calm = true) (S : ∀ {pins σ H s}, Inv X pins σ H s → Sees X scope cl) (hi : PI X tg iter wi)
    (hY : ∀ (s3 : Shared) (H3 : Hp) (fp : List Addr), PG (X.comp scope cl NY s3 H3 fp) tg g ∧ PE (X.comp scope cl NY s3 H3 fp) elt te)
    (h0 : ∀ (pins : List (Addr × Obj)) (σ : St) (H : Hp) (s3 : Shared) (σY : St), Inv X pins σ H s3 → σ0 σ H σY → σY.length = NY.length ∧ ∀ (i : Nat) (x : Str) (v : V), NY[i]? = some x → σY[i]? = some (some v) →
      ∃ c u, (((compEnvC scope cl 0 X.env).kindOf x = some .cell ∨ (compEnvC scope cl 0 X.env).kindOf x = some .free)) ∧ cl.lookup x = some c ∧ RelV v u ∧ s3.heap.IsCell c (some u))
    (hs : ∀ x, foldedSetIterable iter X.env x = pure x) (hN : X.N.Nodup) (hi' : X.N[i]? = some y) (hx : Loc X.env.scope y) (hf : X.fn y = true ∨ X.env.scope.names.lookup y = some .local)
    (hw : swapsWith (.ListComp elt [⟨tg, iter, [], 0⟩] scope pos) (some (.Name y pos')) spos.line X.env = pure true) : PS X (.Assign [.Name y pos'] (.ListComp elt [⟨tg, iter, [], 0⟩] scope pos) spos) (tAsg (tComp wi g te σ0) (gName i)) := by
  intro pins s σ H D I h
  rw [exec_Assign_Name_used _ _ _ _ hw, arm_evalThenUse_ListComp]
  refine wpAny_bind (wpAny_standAt (wpAny_bind (wpAny_bind (wpAny_mono (comp_core (use := some (assign (.Name y pos') X.env)) (R := fun _ s' => SP X pins D .next s') hc (S I) hi hY h0 hs I h fun C L H5 s6 e q => ?_) (fun _ s' z => wpAny_pure (wpAny_pure z)) fun _ _ z => z))))
  obtain ⟨m, hm⟩ := e.ns
  have I6 : Inv X pins σ H5 s6 := e.inv s6.heap ⟨rfl, fun _ _ => rfl⟩
  refine wpAny_assign_Name (store_ok2 I6 hN hi' hx (v := .ref L) rfl (fun s' I' ⟨a, sb, ha⟩ => ?_) hf)
  have ne : C ≠ a := by
    rintro rfl
    rcases ha with z | z
    · exact e.hL z
    · exact e.h2 _ _ z rfl
  refine ⟨m, ?_, fun h' hs' => ?_⟩
  · obtain ⟨o, es, ep, z, r⟩ := hm
    exact ⟨o, es, ep, (sb.2 _ ne).trans z, r⟩
  · exact ⟨_, H5, I'.turned (t' := s'.toks) (it := C) (fun b o nb z => (hs'.2 b nb).trans z) e.hn e.hL (.inr e.h1) e.h2 e.h3, q⟩
end
end L2
namespace L2
open PySem PySem.Spec PyProof.Rows
theorem comp_list {K : PySem.W.Frag} {a D : Addr} {xs : List V} {g : TG} {te : TE} {σY : St} {H1 : Hp} {Q : VK} (Pv : Nat → St → Hp → Prop) (h0 : Pv 0 σY H1) (hl : ∀ i σ H, i ≤ xs.length → Pv i σ H → SqL K H a xs)
    (hs : ∀ i x σ H, xs[i]? = some x → Pv i σ H → g x σ H fun σ3 H3 => te σ3 H3 fun v H4 => ∃ ys, H4 D = some (.lst ys) ∧ ys.length < sizeLine ∧ Pv (i + 1) σ3 (upd H4 D (.lst (ys ++ [v])))) (hd : ∀ σ H, Pv xs.length σ H → Q (.ref D) H) :
    CompW (Itl K a) g te σY H1 D Q := by
  refine ⟨fun i m σ H => m = xs.length - i ∧ i ≤ xs.length ∧ Pv i σ H, ⟨xs.length, by simp, Nat.zero_le _, h0⟩, ?_⟩
  rintro i m σ H ⟨rfl, hi, p⟩
  have q := hl i σ H hi p
  by_cases hlt : i < xs.length
  · refine .inr ⟨⟨xs, xs[i], q, by simp [hlt]⟩, Pv (i + 1), fun σ' H' p' => ⟨xs.length - (i + 1), by omega, rfl, hlt, p'⟩, fun x H' y => ?_⟩
    obtain ⟨e, y⟩ := y
    subst e
    exact hs i x σ _ (y xs q) p
  · have e : i = xs.length := by omega
    subst e
    exact .inl ⟨⟨xs, q, Nat.le_refl _⟩, hd σ H p⟩
theorem comp_range {lo : Int} {n : Nat} {D : Addr} {g : TG} {te : TE} {σY : St} {H1 : Hp} {Q : VK} (Pv : Nat → St → Hp → Prop) (h0 : Pv 0 σY H1)
    (hs : ∀ i σ H, i < n → Pv i σ H → g (.int (lo + i)) σ H fun σ3 H3 => te σ3 H3 fun v H4 => ∃ ys, H4 D = some (.lst ys) ∧ ys.length < sizeLine ∧ Pv (i + 1) σ3 (upd H4 D (.lst (ys ++ [v])))) (hd : ∀ σ H, Pv n σ H → Q (.ref D) H) :
    CompW (Itr lo n) g te σY H1 D Q := by
  refine ⟨fun i m σ H => m = n - i ∧ i ≤ n ∧ Pv i σ H, ⟨n, by simp, Nat.zero_le _, h0⟩, ?_⟩
  rintro i m σ H ⟨rfl, hi, p⟩
  by_cases hlt : i < n
  · refine .inr ⟨hlt, Pv (i + 1), fun σ' H' p' => ⟨n - (i + 1), by omega, rfl, hlt, p'⟩, fun x H' y => ?_⟩
    obtain ⟨e, y⟩ := y
    subst e y
    exact hs i σ _ hlt p
  · have e : i = n := by omega
    subst e
    exact .inl ⟨Nat.le_refl _, hd σ H p⟩
end L2
namespace L2
open PySem PySem.Spec PyProof.Rows
def clGo (env : Env) : List (Str × NameKind) → List (Str × Addr) → List (Str × Addr)
  | [], cs => cs
  | y :: r, cs => clGo env r (if y.2 == .free then (y.1, (env.cells.lookup y.1).getD 0) :: cs else cs)
abbrev clOf (env : Env) (scope : Scope) : List (Str × Addr) := clGo env scope.names []
theorem closure_of {scope : Scope} {env : Env} (h : ∀ y ∈ scope.names, y.2 = .free → ∃ c, env.cells.lookup y.1 = some c) : closureFor scope env = pure (clOf env scope) := by
  rw [closureFor.eq_1]
  suffices q : ∀ (names : List (Str × NameKind)) (cs : List (Str × Addr)), (∀ y ∈ names, y.2 = .free → ∃ c, env.cells.lookup y.1 = some c) →
      (do
        let s ← forIn names cs fun x __s =>
          have cs := __s
          match x with
          | (name, kind) =>
            if (kind == NameKind.free) = true then do
              let l ← cellOf env name
              have cs : List (Str × Addr) := (name, l) :: cs
              pure (ForInStep.yield cs)
            else pure (ForInStep.yield cs)
        pure s : Sem (List (Str × Addr))) = pure (clGo env names cs) from (congrArg (fun (m : Sem (List (Str × Addr))) => m >>= fun s => (pure s : Sem (List (Str × Addr)))) (q scope.names [] h)).trans rfl
  intro names
  induction names with
  | nil => intro cs _; rfl
  | cons y r ih =>
    intro cs h
    obtain ⟨n, k⟩ := y
    have hr := fun y hy => h y (List.mem_cons_of_mem _ hy)
    rw [List.forIn_cons]
    show _ = pure (clGo env r (if k == .free then (n, (env.cells.lookup n).getD 0) :: cs else cs))
    by_cases e : k = .free
    · subst e
      obtain ⟨c, hc⟩ := h (n, .free) List.mem_cons_self rfl
      have e1 : cellOf env n = pure c := by unfold cellOf; rw [show env.cells.lookup n = some c from hc]
      simp only [e1, show env.cells.lookup n = some c from hc, Option.getD_some, beq_self_eq_true, if_true]
      exact ih _ hr
    · have e0 : (k == NameKind.free) = false := by simp [e]
      simp only [e0, Bool.false_eq_true, if_false]
      exact ih _ hr
theorem clGo_sub {env : Env} {x : Str} {c : Addr} : ∀ {names : List (Str × NameKind)} {cs : List (Str × Addr)}, (∀ y ∈ names, y.2 = .free → ∃ c, env.cells.lookup y.1 = some c) → (∀ x c, cs.lookup x = some c → env.cells.lookup x = some c) → (clGo env names cs).lookup x = some c → env.cells.lookup x = some c
  | [], cs, _, hc, h => hc _ _ h
  | (n, k) :: r, cs, hn, hc, h => by
    refine clGo_sub (fun y hy => hn y (List.mem_cons_of_mem _ hy)) (fun x c q => ?_) h
    by_cases e : k = .free
    · subst e
      obtain ⟨c', hc'⟩ := hn (n, .free) List.mem_cons_self rfl
      simp only [beq_self_eq_true, if_true, show env.cells.lookup n = some c' from hc', Option.getD_some, List.lookup_cons] at q
      by_cases z : x = n
      · subst z; simp at q; rw [← q]; exact hc'
      · have z' : (x == n) = false := by simp [z]
        rw [z'] at q
        exact hc _ _ q
    · have e0 : (k == NameKind.free) = false := by simp [e]
      rw [e0] at q
      exact hc _ _ q
theorem clGo_keep {env : Env} {x : Str} : ∀ {names : List (Str × NameKind)} {cs : List (Str × Addr)}, (∃ c, cs.lookup x = some c) → ∃ c, (clGo env names cs).lookup x = some c
  | [], _, h => h
  | (n, k) :: r, cs, h => by
    refine clGo_keep (names := r) ?_
    by_cases e : (k == NameKind.free) = true
    · simp only [e, if_true, List.lookup_cons]
      cases hx : x == n with
      | true => exact ⟨_, rfl⟩
      | false => exact h
    · simp only [e, if_false]; exact h
theorem clGo_has {env : Env} {x : Str} : ∀ {names : List (Str × NameKind)} {cs : List (Str × Addr)}, (x, NameKind.free) ∈ names → ∃ c, (clGo env names cs).lookup x = some c
  | (n, k) :: r, cs, h => by
    rcases List.mem_cons.mp h with e | e
    · cases e
      refine clGo_keep (names := r) ⟨(env.cells.lookup x).getD 0, ?_⟩
      simp
    · show ∃ c, (clGo env r _).lookup x = some c
      exact clGo_has e
def seesOk (X : Cx) (scope : Scope) : Bool :=
  (match scope.kind with | .function => true | _ => false) && scope.names.all fun y => match y.2 with
    | .cell => false
    | .free => (match X.env.kindOf y.1 with | some .cell => true | some .free => true | _ => false)
    | .local => (match scope.names.lookup y.1 with | some .local => true | _ => false)
    | _ => true
theorem sees_of {X : Cx} {scope : Scope} (ok : X.Ok) (h : seesOk X scope = true) : Sees X scope (clOf X.env scope) := by
  unfold seesOk at h
  rw [Bool.and_eq_true, List.all_eq_true] at h
  obtain ⟨hk, hn⟩ := h
  have fr : ∀ y ∈ scope.names, y.2 = .free → ∃ c, X.env.cells.lookup y.1 = some c := fun y hy e => by
    have q := hn y hy
    rw [e] at q
    refine ok.has y.1 ?_
    revert q
    dsimp only
    split
    · rename_i z; intro _; exact .inl z
    · rename_i z; intro _; exact .inr z
    · intro q; cases q
  refine ⟨?_, closure_of fr, fun y hy e => ?_, fun y hy e => ?_, fun x c q => clGo_sub fr (fun _ _ z => by cases z) q, fun x q => ?_⟩
  · revert hk
    cases scope.kind <;> simp
  · have q := hn y hy
    rw [e] at q
    exact Bool.false_ne_true q
  · have q := hn y hy
    rw [e] at q
    revert q
    dsimp only
    split
    · rename_i z; intro _; exact z
    · intro q; cases q
  · have key : ∀ k, (compEnvC scope (clOf X.env scope) 0 X.env).kindOf x = some k → (k = .cell ∨ k = .free) → (x, NameKind.free) ∈ scope.names := by
      intro k hk' hkk
      have q : ((scope.names.map fun y => match y with | (n, k) => if (k == NameKind.free && X.env.scope.kind == ScopeKind.function && X.env.kindOf n == some NameKind.cell) = true then (n, NameKind.cell) else (n, k))).lookup x = some k := hk'
      obtain ⟨n, k', e1, e2⟩ : ∃ n k', (n, k') ∈ scope.names ∧ (match (n, k') with | (n, k) => if (k == NameKind.free && X.env.scope.kind == ScopeKind.function && X.env.kindOf n == some NameKind.cell) = true then (n, NameKind.cell) else (n, k)) = (x, k) := by
        have m : (x, k) ∈ (scope.names.map fun y => match y with | (n, k) => if (k == NameKind.free && X.env.scope.kind == ScopeKind.function && X.env.kindOf n == some NameKind.cell) = true then (n, NameKind.cell) else (n, k)) := by
          revert q
          generalize (scope.names.map fun y => match y with | (n, k) => if (k == NameKind.free && X.env.scope.kind == ScopeKind.function && X.env.kindOf n == some NameKind.cell) = true then (n, NameKind.cell) else (n, k)) = l
          induction l with
          | nil => intro q; cases q
          | cons a l ih =>
            intro q
            obtain ⟨a1, a2⟩ := a
            rw [List.lookup_cons] at q
            cases hx : x == a1 with
            | true => rw [hx] at q; cases q; have := beq_iff_eq.mp hx; subst this; exact List.mem_cons_self
            | false => rw [hx] at q; exact List.mem_cons_of_mem _ (ih q)
        obtain ⟨⟨n, k'⟩, h1, h2⟩ := List.mem_map.mp m
        exact ⟨n, k', h1, h2⟩
      dsimp only at e2
      split at e2
      · rename_i z
        cases e2
        simp only [Bool.and_eq_true, beq_iff_eq] at z
        rw [z.1.1] at e1
        exact e1
      · cases e2
        rcases hkk with rfl | rfl
        · have z := hn _ e1
          exact absurd z Bool.false_ne_true
        · exact e1
    rcases q with q | q
    · exact clGo_has (key _ q (.inl rfl))
    · exact clGo_has (key _ q (.inr rfl))
def capOk (X : Cx) (scope : Scope) : List Str → List (Option Nat) → Bool
  | [], [] => true
  | _ :: r, none :: c => capOk X scope r c
  | x :: r, some j :: c => (match X.N[j]? with | some y => x == y | none => false) && (match (compEnvC scope (clOf X.env scope) 0 X.env).kindOf x with | some .cell => true | some .free => true | _ => false)
      && (match X.env.kindOf x with | some .cell => true | some .free => true | _ => false) && capOk X scope r c
  | _, _ => false
def capt (cap : List (Option Nat)) (σ : St) : St := cap.map fun o => o.bind fun j => (σ[j]?).join
theorem capt_ok {X : Cx} {scope : Scope} {pins : List (Addr × Obj)} {σ : St} {H : Hp} {s : Shared} (I : Inv X pins σ H s) (S : Sees X scope (clOf X.env scope)) : ∀ {NY : List Str} {cap : List (Option Nat)}, capOk X scope NY cap = true → (capt cap σ).length = NY.length ∧ ∀ (i : Nat) (x : Str) (v : V), NY[i]? = some x → (capt cap σ)[i]? = some (some v) →
      ∃ c u, (((compEnvC scope (clOf X.env scope) 0 X.env).kindOf x = some .cell ∨ (compEnvC scope (clOf X.env scope) 0 X.env).kindOf x = some .free)) ∧ (clOf X.env scope).lookup x = some c ∧ RelV v u ∧ s.heap.IsCell c (some u)
  | [], [], _ => ⟨rfl, fun i x v e _ => by cases e⟩
  | [], _ :: _, h => by cases h
  | y :: r, [], h => by cases h
  | y :: r, none :: c, h => by
    obtain ⟨l, q⟩ := capt_ok I S (NY := r) (cap := c) h
    refine ⟨by rw [List.length_cons, ← l]; rfl, fun i x v e1 e2 => ?_⟩
    cases i with
    | zero => cases e2
    | succ i => exact q i x v e1 e2
  | y :: r, some j :: c, h => by
    unfold capOk at h
    rw [Bool.and_eq_true, Bool.and_eq_true, Bool.and_eq_true] at h
    obtain ⟨⟨⟨h1, h2⟩, h3⟩, h4⟩ := h
    obtain ⟨l, q⟩ := capt_ok I S (NY := r) (cap := c) h4
    refine ⟨by rw [List.length_cons, ← l]; rfl, fun i x v e1 e2 => ?_⟩
    cases i with
    | succ i => exact q i x v e1 e2
    | zero =>
      have ey : y = x := Option.some.inj e1
      subst ey
      have ev : (σ[j]?).join = some v := Option.some.inj e2
      have hσ : σ[j]? = some (some v) := by
        cases z : σ[j]? with
        | none => rw [z] at ev; cases ev
        | some o => rw [z] at ev; rw [show o = some v from ev]
      have hN : X.N[j]? = some y := by
        cases z : X.N[j]? with
        | none => rw [z] at h1; cases h1
        | some y' => rw [z] at h1; rw [beq_iff_eq.mp h1]
      have hK : (compEnvC scope (clOf X.env scope) 0 X.env).kindOf y = some .cell ∨ (compEnvC scope (clOf X.env scope) 0 X.env).kindOf y = some .free := by
        revert h2
        split
        · rename_i z; intro _; exact .inl z
        · rename_i z; intro _; exact .inr z
        · intro q; cases q
      have hV : X.env.kindOf y = some .cell ∨ X.env.kindOf y = some .free := by
        revert h3
        split
        · rename_i z; intro _; exact .inl z
        · rename_i z; intro _; exact .inr z
        · intro q; cases q
      obtain ⟨c', hc'⟩ := S.has y hK
      obtain ⟨m, _, hl⟩ := I.loc
      obtain ⟨u, ru, lk⟩ := hl j y v hN hσ (.inr hV)
      refine ⟨c', u, hK, hc', ru, ?_⟩
      rcases lk with ⟨k, _⟩ | ⟨_, c2, e3, e4⟩
      · have k' : X.env.kindOf y = some .local := k
        rcases hV with z | z <;> rw [z] at k' <;> cases k'
      · have e5 := S.sub _ _ hc'
        rw [e3] at e5
        cases e5
        exact e4
abbrev tCompC (wi : TI) (g : TG) (te : TE) (cap : List (Option Nat)) : TE := tComp wi g te fun σ _ σY => σY = capt cap σ
section
variable {X : Cx} {tg : Expr}
theorem pe_compC {iter elt : Expr} {scope : Scope} {pos : Pos} {wi : TI} {g : TG} {te : TE} (NY : List Str) (cap : List (Option Nat)) (hc : X.calm = true) (hk : seesOk X scope = true) (hcap : capOk X scope NY cap = true) (hi : PI X tg iter wi)
    (hY : ∀ (s3 : Shared) (H3 : Hp) (fp : List Addr), PG (X.comp scope (clOf X.env scope) NY s3 H3 fp) tg g ∧ PE (X.comp scope (clOf X.env scope) NY s3 H3 fp) elt te)
    (hs : ∀ x, foldedSetIterable iter X.env x = pure x := by intro _; rfl) : PE X (.ListComp elt [⟨tg, iter, [], 0⟩] scope pos) (tCompC wi g te cap) := by
  intro pins s σ H Q I h
  have S := sees_of I.ok hk
  refine pe_comp (NY := NY) hc S hi hY (fun pins σ H s3 σY I3 e => ?_) hs pins s σ H Q I h
  subst e
  exact capt_ok I3 S hcap
theorem ps_compC {iter elt : Expr} {scope : Scope} {pos pos' spos : Pos} {wi : TI} {g : TG} {te : TE} {i : Nat} {y : Str} (NY : List Str) (cap : List (Option Nat)) (hc : X.calm = true) (hk : seesOk X scope = true) (hcap : capOk X scope NY cap = true) (hi : PI X tg iter wi)
    (hY : ∀ (s3 : Shared) (H3 : Hp) (fp : List Addr), PG (X.comp scope (clOf X.env scope) NY s3 H3 fp) tg g ∧ PE (X.comp scope (clOf X.env scope) NY s3 H3 fp) elt te) (hN : X.N.Nodup) (hi' : X.N[i]? = some y) (hx : Loc X.env.scope y)
    (hf : X.fn y = true ∨ X.env.scope.names.lookup y = some .local := by first | exact .inl rfl | exact .inr rfl) (hw : swapsWith (.ListComp elt [⟨tg, iter, [], 0⟩] scope pos) (some (.Name y pos')) spos.line X.env = pure true := by rfl)
    (hs : ∀ x, foldedSetIterable iter X.env x = pure x := by intro _; rfl) : PS X (.Assign [.Name y pos'] (.ListComp elt [⟨tg, iter, [], 0⟩] scope pos) spos) (tAsg (tCompC wi g te cap) (gName i)) := by
  refine ps_comp (NY := NY) hc (fun I => sees_of I.ok hk) hi hY (fun pins σ H s3 σY I3 e => ?_) hs hN hi' hx hf hw
  subst e
  exact capt_ok I3 (sees_of I3.ok hk) hcap
end
end L2
namespace L2
open PySem PySem.Spec PyProof.Rows
section
variable {X : Cx}
def rIsB (f : Bool → Bool → Bool) : R2 := fun x y H Q => ∃ a b, x = .bl a ∧ y = .bl b ∧ Q (.bl (f a b)) H
def rLenS (K : PySem.W.Frag) : List V → Hp → VK → Prop := fun xs H Q => ∃ p ys, xs = [.ref p] ∧ (SqL K H p ys ∨ SqT K H p ys) ∧ Q (.int ys.length) H
theorem ix_listK {K : PySem.W.Frag} (e : X.K = K) : IxR X (rIxL K) := by subst e; exact ix_list
end
theorem at_int {ns : List Int} {j : Int} (i : Nat) (h : i < ns.length) (e : j = i) : atI (ns.map V.int) j = some (.int (ns.getD i 0)) := by
  subst e
  refine atI_nat ?_
  rw [List.getElem?_map, List.getElem?_eq_getElem h]
  simp [List.getD, h]
theorem getD_mem {ns : List Int} {i : Nat} (h : i < ns.length) : ns.getD i 0 ∈ ns := by
  rw [List.getD_eq_getElem?_getD, List.getElem?_eq_getElem h]
  exact List.getElem_mem h
theorem map_int_at {ns : List Int} {i : Nat} {x : V} (h : (ns.map V.int)[i]? = some x) : i < ns.length ∧ x = .int (ns.getD i 0) := by
  rw [List.getElem?_map] at h
  cases e : ns[i]? with
  | none => rw [e] at h; cases h
  | some n =>
    rw [e] at h
    refine ⟨(List.getElem?_eq_some_iff.mp e).1, ?_⟩
    rw [List.getD_eq_getElem?_getD, e]
    exact (Option.some.inj h).symm
end L2
namespace L2
open PySem PySem.Spec PyProof.Rows
section
variable {X : Cx} {pins : List (Addr × Obj)} {σ : St} {H : Hp} {s : Shared}
end
section
variable {X : Cx}
def rSum (K : PySem.W.Frag) : List V → Hp → VK → Prop := fun xs H Q => ∃ (p : Addr) (ns : List Int), xs = [.ref p] ∧ SqL K H p (ns.map V.int) ∧ Q (.int ns.sum) H
def rAny (K : PySem.W.Frag) (f : List Bool → Bool) : List V → Hp → VK → Prop := fun xs H Q => ∃ (p : Addr) (bs : List Bool), xs = [.ref p] ∧ SqL K H p (bs.map V.bl) ∧ Q (.bl (f bs)) H
end
end L2
namespace L2
open PySem PySem.Spec PyProof.Rows
mutual
inductive DV (K : PySem.W.Frag) (H : Hp) : V → PyData → Prop
  | non : DV K H .non .none
  | bl (b : Bool) : DV K H (.bl b) (.bool b)
  | int (i : Int) : DV K H (.int i) (.int i)
  | str (x : Str) : DV K H (.str x) (.str x)
  | lst {a : Addr} {xs : List V} {ds : List PyData} : SqL K H a xs → DVs K H xs ds → DV K H (.ref a) (.list ds)
  | tup {a : Addr} {xs : List V} {ds : List PyData} : SqT K H a xs → DVs K H xs ds → DV K H (.ref a) (.tuple ds)
inductive DVs (K : PySem.W.Frag) (H : Hp) : List V → List PyData → Prop
  | nil : DVs K H [] []
  | cons {v : V} {vs : List V} {d : PyData} {ds : List PyData} : DV K H v d → DVs K H vs ds → DVs K H (v :: vs) (d :: ds)
end
section
variable {X : Cx} {pins : List (Addr × Obj)} {σ : St} {H : Hp} {s : Shared}
mutual
theorem dv_reads (I : Inv X pins σ H s) : ∀ {v : V} {d : PyData} {u : Value}, DV X.K H v d → RelV v u → ∃ as, Reads s.heap u d as
  | _, _, u, .non, r => by cases (show u = Value.none from r); exact ⟨_, .none⟩
  | _, _, u, .bl b, r => by cases (show u = Value.bool b from r); exact ⟨_, .bool b⟩
  | _, _, u, .int i, r => by obtain ⟨t, rfl⟩ := (show ∃ t, u = Value.int i t from r); exact ⟨_, .int i t⟩
  | _, _, u, .str x, r => by obtain ⟨t, rfl⟩ := (show ∃ t, u = Value.str x t from r); exact ⟨_, .str x t⟩
  | _, _, u, .lst (a := a) h q, r => by
    cases (show u = Value.ref a from r)
    obtain ⟨its, rv, ⟨o, n, e, c, d, f⟩, _⟩ := I.list h
    obtain ⟨as, ra⟩ := dvs_reads I q rv
    exact ⟨_, .list e c f ra⟩
  | _, _, u, .tup (a := a) h q, r => by
    cases (show u = Value.ref a from r)
    obtain ⟨its, rv, ⟨o, e, c, n, f⟩, _⟩ := I.tuple h
    obtain ⟨as, ra⟩ := dvs_reads I q rv
    exact ⟨_, .tuple e c f ra⟩
theorem dvs_reads (I : Inv X pins σ H s) : ∀ {vs : List V} {ds : List PyData} {us : List Value}, DVs X.K H vs ds → Vals vs us → ∃ as, ReadsAll s.heap us ds as
  | _, _, _, .nil, .nil => ⟨_, .nil⟩
  | _, _, _, .cons h q, .cons r rr => by
    obtain ⟨as, ra⟩ := dv_reads I h r
    obtain ⟨bs, rb⟩ := dvs_reads I q rr
    exact ⟨_, .cons ra rb⟩
end
end
section
variable {X : Cx}
def rEqD (K : PySem.W.Frag) (f : Bool → Bool) : R2 := fun x y H Q => ∃ d e, DV K H x d ∧ DV K H y e ∧ d.canLay0 = true ∧ e.canLay0 = true ∧ d.depth ≤ 64 ∧ Q (.bl (f (d.eqv e))) H
theorem op_eqD (hu : X.A.units + 64 < cLine) : OpR X (compareOp .Eq) (rEqD X.K id) := by
  intro pins s σ H x y v u Q I rx ry h
  obtain ⟨d, e, hd, he, c1, c2, dp, q⟩ := h
  obtain ⟨as, ra⟩ := dv_reads I hd rx
  obtain ⟨bs, rb⟩ := dv_reads I he ry
  exact SeqAt.compareEq_reads ra rb c1 c2 (by omega) ⟨.bl _, H, I, rfl, q⟩
theorem op_neD (hu : X.A.units + 64 < cLine) : OpR X (compareOp .NotEq) (rEqD X.K not) := by
  intro pins s σ H x y v u Q I rx ry h
  obtain ⟨d, e, hd, he, c1, c2, dp, q⟩ := h
  obtain ⟨as, ra⟩ := dv_reads I hd rx
  obtain ⟨bs, rb⟩ := dv_reads I he ry
  exact SeqAt.compareNe_reads ra rb c1 c2 (by omega) ⟨.bl _, H, I, rfl, q⟩
end
def dI (ns : List Int) : PyData := .list (ns.map PyData.int)
theorem dvs_ints {K : PySem.W.Frag} {H : Hp} : ∀ {ns : List Int}, DVs K H (ns.map V.int) (ns.map PyData.int)
  | [] => .nil
  | n :: ns => .cons (.int n) dvs_ints
theorem dv_ints {K : PySem.W.Frag} {H : Hp} {a : Addr} {ns : List Int} (h : SqL K H a (ns.map V.int)) : DV K H (.ref a) (dI ns) := .lst h dvs_ints
theorem layAll_ints : ∀ {ns : List Int}, PyData.canLayAll0 (ns.map PyData.int) = true
  | [] => rfl
  | n :: ns => by
    rw [List.map_cons]
    show (PyData.canLay0 (.int n) && PyData.canLayAll0 (ns.map PyData.int)) = true
    rw [layAll_ints]; rfl
theorem lay_ints {ns : List Int} : (dI ns).canLay0 = true := layAll_ints
theorem depthAll_ints : ∀ {ns : List Int}, PyData.depthAll (ns.map PyData.int) ≤ 1
  | [] => by decide
  | n :: ns => by
    have := depthAll_ints (ns := ns)
    rw [List.map_cons]
    show max (PyData.depth (.int n)) (PyData.depthAll (ns.map PyData.int)) ≤ 1
    have e : PyData.depth (.int n) ≤ 1 := by show _ ≤ _; simp [PyData.depth]
    omega
end L2
namespace L2
open PySem
theorem dep_list {xs : List PyData} {n : Nat} (h : PyData.depthAll xs ≤ n) : (PyData.list xs).depth ≤ n + 1 := by
  have e : (PyData.list xs).depth = PyData.depthAll xs + 1 := by first | rfl | (simp [PyData.depth]; done) | (simp [PyData.depth]; omega)
  omega
theorem dep_ints {ns : List Int} : (dI ns).depth ≤ 2 := dep_list depthAll_ints
end L2
namespace L2
open PySem PySem.Spec PyProof.Rows
theorem sql_same {K : PySem.W.Frag} {H H' : Hp} {a : Addr} {xs : List V} (h : SqL K H a xs) (s : Same H H') : SqL K H' a xs := by
  rcases h with h | h
  · exact .inl (h.imp (fun z => s _ _ z) fun ⟨o, z⟩ => ⟨o, s _ _ z⟩)
  · exact .inr h
theorem same_upd {H H' : Hp} {a : Addr} {o : HO} (s : Same H H') (h : H a = none) : Same H (upd H' a o) := fun c x z => by rw [upd_ne (ne_of_none z h)]; exact s _ _ z
theorem Same.none {H H' : Hp} {a : Addr} (s : Same H H') (h : H' a = none) : H a = none := by
  cases e : H a with
  | none => rfl
  | some o => rw [s _ _ e] at h; cases h
def cutI (cs : List Int) (a b : Int) : List Int := (cs.drop (min a.toNat cs.length)).take (min b.toNat cs.length - min a.toNat cs.length)
theorem sIx_pos {n d : Nat} {a : Int} (h : 0 ≤ a) : HT.sIx n d (some a) = min a.toNat n := by
  show (if a < 0 then (a + (n : Int)).toNat else min a.toNat n) = min a.toNat n
  rw [if_neg (by omega)]
theorem cutV_int {cs : List Int} {a b : Int} (ha : 0 ≤ a) (hb : 0 ≤ b) : cutV (cs.map V.int) (some a) (some b) = (cutI cs a b).map V.int := by
  unfold cutV cutI
  rw [sIx_pos ha, sIx_pos hb, List.length_map, ← List.map_drop, ← List.map_take]
theorem cutV_from {cs : List Int} {a : Int} (ha : 0 ≤ a) : cutV (cs.map V.int) (some a) none = (cs.drop a.toNat).map V.int := by
  unfold cutV
  rw [HT.sIx_none, sIx_pos ha, List.length_map, ← List.map_drop, ← List.map_take]
  congr 1
  by_cases h : a.toNat ≤ cs.length
  · rw [Nat.min_eq_left h]
    exact List.take_of_length_le (by rw [List.length_drop]; omega)
  · have e1 : cs.drop cs.length = [] := List.drop_length
    have e2 : cs.drop a.toNat = [] := List.drop_eq_nil_of_le (by omega)
    rw [Nat.min_eq_right (by omega), e1, e2]
    simp
theorem sum_take_succ {ns : List Int} {i : Nat} (h : i < ns.length) : (ns.take (i + 1)).sum = (ns.take i).sum + ns.getD i 0 := by
  have e : ns.take (i + 1) = ns.take i ++ [ns.getD i 0] := by
    rw [List.take_add_one, List.getD_eq_getElem?_getD, List.getElem?_eq_getElem h]; rfl
  rw [e, List.sum_append]
  simp
theorem sum_mono {ns : List Int} (h : ∀ v ∈ ns, 0 ≤ v) : ∀ (i : Nat), 0 ≤ (ns.take i).sum ∧ (ns.take i).sum ≤ ns.sum := by
  induction ns with
  | nil => intro i; simp
  | cons n ns ih =>
    intro i
    have z := h n List.mem_cons_self
    cases i with
    | zero =>
      have := (ih (fun v hv => h v (List.mem_cons_of_mem _ hv)) ns.length).1
      rw [List.take_length] at this
      simp; omega
    | succ i =>
      have := ih (fun v hv => h v (List.mem_cons_of_mem _ hv)) i
      rw [List.take_succ_cons, List.sum_cons, List.sum_cons]
      omega
end L2
namespace L2
open PySem PySem.Spec PyProof.Rows
section
variable {P : Program} {w : World} {K : PySem.W.Frag} {mg : Str → Option Value} {base : Heap}
def MethIn (K : PySem.W.Frag) (C : Addr) (x qual : Str) (st : Stmt) (ps : List Str) : Prop := ∃ (f : Addr) (fd : FuncData), Meth K C x f ∧ Fun K x qual st f fd ∧ Binds K fd ps []
def OkM (P : Program) (w : World) (K : PySem.W.Frag) (mg : Str → Option Value) (base : Heap) (CX : CXT) (k : Nat) (C : Addr) (x : Str) (ps : List Str) (sp : Sp) : Prop :=
  ∃ (f : Addr) (fd : FuncData), Meth K C x f ∧ Binds K fd ps [] ∧ FnOk P w K mg base CX k f fd ps sp
def InitIn (K : PySem.W.Frag) (C : Addr) (qual : Str) (st : Stmt) (ps : List Str) : Prop := ∃ (f : Addr) (fd : FuncData), Mk K C f ∧ Fun K "__init__" qual st f fd ∧ Binds K fd ps []
def OkI (P : Program) (w : World) (K : PySem.W.Frag) (mg : Str → Option Value) (base : Heap) (CX : CXT) (k : Nat) (C : Addr) (ps : List Str) (sp : Sp) : Prop :=
  ∃ (f : Addr) (fd : FuncData), Mk K C f ∧ Binds K fd ps [] ∧ FnOk P w K mg base CX k f fd ps sp
theorem OkM.mono {CX : CXT} {j k : Nat} {C : Addr} {x : Str} {ps : List Str} {sp : Sp} (o : OkM P w K mg base CX j C x ps sp) (h : j ≤ k) : OkM P w K mg base CX k C x ps sp := by
  obtain ⟨f, fd, a, b, c⟩ := o
  exact ⟨f, fd, a, b, c.mono h⟩
end
section
variable {X : Cx} {CX : CXT} {k : Nat} {C : Addr} {ps : List Str} {sp : Sp} {E : XK} {x m : Str} {p pos apos : Pos} {e o : Expr} {es : List Expr} {ta : TE} {t : TA}
theorem pe_okI (h : OkI X.prog X.w X.K X.mg X.base CX k C ps sp) (hm : X.mg x = some (.ref C)) (hr : Room (k + 1) X.A) (hg : Gl X x) (hx : Passes CX X E) (ha : PA X (e :: es) t) (hdb : (x == ("__debug__" : Str)) = false := by decide)
    (he : starEach (e :: es) X.env = (false, eval e X.env) :: starEach es X.env := by rfl) (hpl : (backTo pos (starEach es X.env)).any (·.1) = false := by rfl) : PE X (.Call (.Name x p) (e :: es) [] pos) (tMake C sp [] E t) := by
  obtain ⟨f, fd, a, b, d⟩ := h
  exact pe_make a d hr hg hm b .nil hx ha hdb he hpl
end
end L2
namespace My
open PySem PySem.W PyProof.Rows
theorem and_half (x y : Int) : Builtin.bitAnd x y / 2 = Builtin.bitAnd (x / 2) (y / 2) ∧ Builtin.bitAnd x y % 2 = (x % 2) * (y % 2) := by
  have h := kbt_halves x y
  rcases (by omega : x % 2 = 0 ∨ x % 2 = 1) with a | a <;> rcases (by omega : y % 2 = 0 ∨ y % 2 = 1) with b | b <;>
    (rw [a, b] at h ⊢; simp at h ⊢; omega)
theorem or_half (x y : Int) : Builtin.bitOr x y / 2 = Builtin.bitOr (x / 2) (y / 2) ∧ Builtin.bitOr x y % 2 = max (x % 2) (y % 2) := by
  rw [bitOr_and, bitOr_and]
  have h := kbt_halves x y
  rcases (by omega : x % 2 = 0 ∨ x % 2 = 1) with a | a <;> rcases (by omega : y % 2 = 0 ∨ y % 2 = 1) with b | b <;>
    (rw [a, b] at h ⊢; simp at h; omega)
theorem xor_half (x y : Int) : Builtin.bitXor x y / 2 = Builtin.bitXor (x / 2) (y / 2) ∧ Builtin.bitXor x y % 2 = (x % 2 + y % 2) % 2 := by
  rw [bitXor_and, bitXor_and]
  have h := kbt_halves x y
  rcases (by omega : x % 2 = 0 ∨ x % 2 = 1) with a | a <;> rcases (by omega : y % 2 = 0 ∨ y % 2 = 1) with b | b <;>
    (rw [a, b] at h ⊢; simp at h; omega)
theorem div_succ (x : Int) (k : Nat) : x / 2 ^ (k + 1) = x / 2 / 2 ^ k := by
  rw [Int.ediv_ediv_of_nonneg (by decide), Int.pow_succ, Int.mul_comm]
theorem and_bit (k : Nat) : ∀ x y : Int, Builtin.bitAnd x y / 2 ^ k % 2 = (x / 2 ^ k % 2) * (y / 2 ^ k % 2) := by
  induction k with
  | zero => intro x y; simpa using (and_half x y).2
  | succ k ih => intro x y; rw [div_succ, div_succ, div_succ, (and_half x y).1, ih]
theorem or_bit (k : Nat) : ∀ x y : Int, Builtin.bitOr x y / 2 ^ k % 2 = max (x / 2 ^ k % 2) (y / 2 ^ k % 2) := by
  induction k with
  | zero => intro x y; simpa using (or_half x y).2
  | succ k ih => intro x y; rw [div_succ, div_succ, div_succ, (or_half x y).1, ih]
theorem xor_bit (k : Nat) : ∀ x y : Int, Builtin.bitXor x y / 2 ^ k % 2 = (x / 2 ^ k % 2 + y / 2 ^ k % 2) % 2 := by
  induction k with
  | zero => intro x y; simpa using (xor_half x y).2
  | succ k ih => intro x y; rw [div_succ, div_succ, div_succ, (xor_half x y).1, ih]
def In (n : Nat) (x : Int) : Prop := -(2 ^ n) ≤ x ∧ x < 2 ^ n
theorem in_half {n : Nat} {x : Int} : In (n + 1) x ↔ In n (x / 2) := by
  unfold In
  rw [Int.pow_succ]
  constructor
  · intro h; omega
  · intro h; omega
theorem in_zero {x : Int} (h : In 0 x) : x = 0 ∨ x = -1 := by
  unfold In at h; omega
theorem and_in (n : Nat) : ∀ x y : Int, In n x → In n y → In n (Builtin.bitAnd x y) := by
  induction n with
  | zero =>
    intro x y hx hy
    rcases in_zero hx with a | a <;> rcases in_zero hy with b | b <;> (subst a; subst b; unfold In; decide)
  | succ n ih => intro x y hx hy; rw [in_half] at *; rw [(and_half x y).1]; exact ih _ _ hx hy
theorem or_in (n : Nat) : ∀ x y : Int, In n x → In n y → In n (Builtin.bitOr x y) := by
  induction n with
  | zero =>
    intro x y hx hy
    rcases in_zero hx with a | a <;> rcases in_zero hy with b | b <;> (subst a; subst b; unfold In; decide)
  | succ n ih => intro x y hx hy; rw [in_half] at *; rw [(or_half x y).1]; exact ih _ _ hx hy
theorem xor_in (n : Nat) : ∀ x y : Int, In n x → In n y → In n (Builtin.bitXor x y) := by
  induction n with
  | zero =>
    intro x y hx hy
    rcases in_zero hx with a | a <;> rcases in_zero hy with b | b <;> (subst a; subst b; unfold In; decide)
  | succ n ih => intro x y hx hy; rw [in_half] at *; rw [(xor_half x y).1]; exact ih _ _ hx hy
theorem ext_half {x y : Int} (h : x / 2 = y / 2) (g : x % 2 = y % 2) : x = y := by omega
theorem or_assoc (n : Nat) : ∀ x y z : Int, In n x → In n y → In n z → Builtin.bitOr (Builtin.bitOr x y) z = Builtin.bitOr x (Builtin.bitOr y z) := by
  induction n with
  | zero =>
    intro x y z hx hy hz
    rcases in_zero hx with a | a <;> rcases in_zero hy with b | b <;> rcases in_zero hz with c | c <;> (subst a; subst b; subst c; decide)
  | succ n ih =>
    intro x y z hx hy hz; rw [in_half] at *
    refine ext_half ?_ ?_
    · rw [(or_half _ z).1, (or_half x y).1, (or_half x _).1, (or_half y z).1]; exact ih _ _ _ hx hy hz
    · rw [(or_half _ z).2, (or_half x y).2, (or_half x _).2, (or_half y z).2]; omega
end My
namespace My
open PySem PySem.W PyProof.Rows
def kept (n : Int) : Int := Int.fmod (n + 9223372036854775808) 18446744073709551616 - 9223372036854775808
def Kin (x : Int) : Prop := -9223372036854775808 ≤ x ∧ x ≤ 9223372036854775807
structure Free (op : Int → Int → Int) : Prop where
  cl : ∀ a b, Kin a → Kin b → Kin (op a b)
  cm : ∀ a b, Kin a → Kin b → op a b = op b a
  as : ∀ a b c, Kin a → Kin b → Kin c → op (op a b) c = op a (op b c)
def fold1 (op : Int → Int → Int) : List Int → Int
  | [] => 0
  | x :: xs => xs.foldl op x
end My
namespace L2
open PySem PySem.Spec PyProof.Rows
def DispX (P : Program) (w : World) (K : PySem.W.Frag) (mg : Str → Option Value) (base : Heap) (CX : CXT) (k : Nat) (m : Str) (C : Addr) (sp : Sp) : Prop := Cls K C ∧ ∃ (f : Addr) (fd : FuncData) (ps : List Str), Meth K C m f ∧ FnOk P w K mg base CX k f fd ps sp ∧ Binds K fd ps []
theorem DispX.mono {P : Program} {w : World} {K : PySem.W.Frag} {mg : Str → Option Value} {base : Heap} {CX : CXT} {j k : Nat} {m : Str} {C : Addr} {sp : Sp} (d : DispX P w K mg base CX j m C sp) (h : j ≤ k) : DispX P w K mg base CX k m C sp := by
  obtain ⟨c, f, fd, ps, a, b, e⟩ := d
  exact ⟨c, f, fd, ps, a, b.mono h, e⟩
def tMethX (Ds : Addr → Sp → Prop) (m : Str) (E : XK) (ta : TE) (t : TA) : TE := fun σ H Q => ta σ H fun x H1 => ∃ a C dx fs sp, x = .ref a ∧ H1 a = some (.ins C dx fs) ∧ Ds C sp ∧ fs.lookup m = none ∧ t σ H1 fun vs H2 => sp (x :: vs) H2 Q E
section
variable {X : Cx} {σ₀ : St}
theorem pe1_methX {CX : CXT} {k : Nat} {E : XK} {m : Str} {apos pos : Pos} {o e : Expr} {es : List Expr} {ta : TE} {t : TA} {pl : Sem Bool} (hr : Room k X.A) (hx : Passes1 CX X σ₀ E) (he : PE X o ta) (ha : PA X (e :: es) t)
    (hst : starEach (e :: es) X.env = (false, eval e X.env) :: starEach es X.env := by rfl) (hpl : (backTo pos (starEach es X.env)).any (·.1) = false := by rfl)
    (ht : eval (.Call (.Attribute o m apos) (e :: es) [] pos) X.env = (do
      let ov ← eval o X.env
      standAt apos.atName
      let (f, first) ← holding [ov] (getMethod ov m pl)
      callWith pos f first (backTo pos (starEach (e :: es) X.env)) (backToKw pos (keywordEach [] X.env))) := by rfl) :
    PE1 X σ₀ (.Call (.Attribute o m apos) (e :: es) [] pos) (tMethX (DispX X.prog X.w X.K X.mg X.base CX k m) m E ta t) := by
  intro pins s H Q I h
  refine PySem.W.methodCall_KW (pl := pl) (thn (he pins s σ₀ H _ I h) fun u s1 ⟨x, H1, I1, rx, a, C, dx, fs, sp, ex, ea, dp, l, q⟩ => ?_) ht
  subst ex
  obtain rfl : u = Value.ref a := rx
  obtain ⟨cl, f, fd, ps, hm, F, hb⟩ := dp
  refine getmeth_ok I1 ea cl hm l ?_
  refine PySem.W.callWith_K (first := [.ref a]) (h₀ := X.base) I.ok.mod.kin hm.kp (thn (ha pos pins s1 σ₀ H1 _ I1 q) fun us s2 ⟨vs, H2, I2, r, q2⟩ => ⟨I2.kIn, ?_⟩) hst hpl
  exact run_fn1 (us := .ref a :: us) (vs := .ref a :: vs) (dvs := []) (ds := []) F hr hb .nil hx I2 (.cons rfl r) (by simpa using q2)
theorem pe_methX {CX : CXT} {k : Nat} {E : XK} {m : Str} {apos pos : Pos} {o e : Expr} {es : List Expr} {ta : TE} {t : TA} {pl : Sem Bool} (hr : Room k X.A) (hx : Passes CX X E) (he : PE X o ta) (ha : PA X (e :: es) t)
    (hst : starEach (e :: es) X.env = (false, eval e X.env) :: starEach es X.env := by rfl) (hpl : (backTo pos (starEach es X.env)).any (·.1) = false := by rfl)
    (ht : eval (.Call (.Attribute o m apos) (e :: es) [] pos) X.env = (do
      let ov ← eval o X.env
      standAt apos.atName
      let (f, first) ← holding [ov] (getMethod ov m pl)
      callWith pos f first (backTo pos (starEach (e :: es) X.env)) (backToKw pos (keywordEach [] X.env))) := by rfl) :
    PE X (.Call (.Attribute o m apos) (e :: es) [] pos) (tMethX (DispX X.prog X.w X.K X.mg X.base CX k m) m E ta t) :=
  PE1.all fun _ => pe1_methX hr hx.one he ha hst hpl ht
end
end L2
namespace FM
open PySem L2
abbrev Kin (x : Int) : Prop := -9223372036854775808 ≤ x ∧ x ≤ 9223372036854775807
def kept (n : Int) : Int := (n + 9223372036854775808) % (2 * 9223372036854775808) - 9223372036854775808
def signs : List Str := ["+", "-", "*", "/", "rest", "least", "most", "<", "=", "&", "|", "^"]
def doneR (sg : Str) (a b : Int) : Option Int :=
  if sg = "+" then some (kept (a + b)) else if sg = "-" then some (kept (a - b)) else if sg = "*" then some (kept (a * b))
  else if sg = "/" then (if b = 0 then none else some (kept (a.fdiv b))) else if sg = "rest" then (if b = 0 then none else some (a.fmod b))
  else if sg = "least" then some (if b < a then b else a) else if sg = "most" then some (if b > a then b else a)
  else if sg = "<" then some (if a < b then 1 else 0) else if sg = "=" then some (if a = b then 1 else 0)
  else if sg = "&" then some (Builtin.bitAnd a b) else if sg = "|" then some (Builtin.bitOr a b) else some (Builtin.bitXor a b)
def edges : List Int := [-9223372036854775808, 9223372036854775807, -1, 4294967296, -9223372036854775807, 3037000500]
def keptBy (c : Int) : Int :=
  if c % 4 = 0 then c / 4 % 7 - 3 else if c % 4 = 1 then edges.getD (c / 4 % 6).toNat 0 else if c % 4 = 2 then c / 4 * 48271 % 2001 - 1000
  else c / 4 * 2862933555777941757 % 18446744073709551616 - 9223372036854775808
def bitDue (sg : Str) (a b : Int) : Int := if sg = "&" then a * b else if sg = "|" then (if b > a then b else a) else (a + b) % 2
theorem pw_pos (n : Nat) : (0 : Int) < 2 ^ n := by
  induction n with
  | zero => decide
  | succ n ih => rw [Int.pow_succ]; omega
theorem fbit (x : Int) (n : Nat) : x.fdiv (2 ^ n) % 2 = x / 2 ^ n % 2 := by rw [Int.fdiv_eq_ediv_of_nonneg _ (Int.le_of_lt (pw_pos n))]
theorem in63 {x : Int} : Kin x ↔ My.In 63 x := by
  unfold Kin My.In
  have e : (2 : Int) ^ 63 = 9223372036854775808 := by decide
  rw [e]; omega
theorem bits_ok {sg : Str} (hs : sg = "&" ∨ sg = "|" ∨ sg = "^") {a b : Int} (ha : Kin a) (hb : Kin b) : ∃ r, doneR sg a b = some r ∧ Kin r ∧ ∀ n : Nat, r.fdiv (2 ^ n) % 2 = bitDue sg (a.fdiv (2 ^ n) % 2) (b.fdiv (2 ^ n) % 2) := by
  rcases hs with rfl | rfl | rfl
  · exact ⟨_, rfl, in63.mpr (My.and_in 63 a b (in63.mp ha) (in63.mp hb)), fun n => by rw [fbit, fbit, fbit, My.and_bit]; rfl⟩
  · refine ⟨_, rfl, in63.mpr (My.or_in 63 a b (in63.mp ha) (in63.mp hb)), fun n => ?_⟩
    rw [fbit, fbit, fbit, My.or_bit]
    show max _ _ = if _ > _ then _ else _
    split <;> omega
  · exact ⟨_, rfl, in63.mpr (My.xor_in 63 a b (in63.mp ha) (in63.mp hb)), fun n => by rw [fbit, fbit, fbit, My.xor_bit]; rfl⟩
theorem kept_in (n : Int) : Kin (kept n) := by unfold kept; omega
theorem done_in {sg : Str} (hs : sg ∈ signs) {a b r : Int} (ha : Kin a) (hb : Kin b) (h : doneR sg a b = some r) : Kin r := by
  simp only [signs, List.mem_cons, List.not_mem_nil, or_false] at hs
  have bit : (sg = "&" ∨ sg = "|" ∨ sg = "^") → Kin r := fun z => by
    obtain ⟨r', e, k, _⟩ := bits_ok z ha hb
    rw [e] at h; cases h; exact k
  rcases hs with rfl | rfl | rfl | rfl | rfl | rfl | rfl | rfl | rfl | rfl | rfl | rfl
  · cases h; exact kept_in _
  · cases h; exact kept_in _
  · cases h; exact kept_in _
  · have h' : (if b = 0 then none else some (kept (a.fdiv b))) = some r := h
    split at h'
    · cases h'
    · cases h'; exact kept_in _
  · have h' : (if b = 0 then none else some (a.fmod b)) = some r := h
    split at h'
    · cases h'
    · rename_i z
      cases h'
      rcases (by omega : 0 < b ∨ b < 0) with p | p
      · have h1 := Int.fmod_nonneg_of_pos a p
        have h2 := Int.fmod_lt_of_pos a p
        omega
      · have h1 : a.fmod b ≤ 0 := by
          have e := Int.neg_fmod_neg a b
          have h3 := Int.fmod_nonneg_of_pos (-a) (show 0 < -b by omega)
          omega
        have h2 : b < a.fmod b := by
          have e := Int.neg_fmod_neg a b
          have h3 := Int.fmod_lt_of_pos (-a) (show 0 < -b by omega)
          omega
        omega
  · have h' : some (if b < a then b else a) = some r := h
    cases h'; split <;> omega
  · have h' : some (if b > a then b else a) = some r := h
    cases h'; split <;> omega
  · have h' : some (if a < b then (1 : Int) else 0) = some r := h
    cases h'; split <;> omega
  · have h' : some (if a = b then (1 : Int) else 0) = some r := h
    cases h'; split <;> omega
  · exact bit (.inl rfl)
  · exact bit (.inr (.inl rfl))
  · exact bit (.inr (.inr rfl))
inductive Fm | num (n : Int) | here | cell (r : Int) | shi (r by' other : Int) | loc (at' : Int) | at' (r : Int) (p : Fm) | pair (sg : Str) (l r : Fm) | cho (t l r : Fm)
inductive Res | ok (n : Int) | nought | outside
  deriving DecidableEq
structure SpotD where
  lens : List Int
  cells : List Int
  place : Int
  own : List Int
structure Cs where
  num : Addr
  here : Addr
  cell : Addr
  shi : Addr
  loc : Addr
  at' : Addr
  pair : Addr
  cho : Addr
  spot : Addr
def FormAt (c : Cs) (H : Hp) : Fm → Addr → Prop
  | .num n, x => ∃ dx, H x = some (.ins c.num dx [("number", .int n)])
  | .here, x => ∃ dx, H x = some (.ins c.here dx [])
  | .cell r, x => ∃ dx, H x = some (.ins c.cell dx [("row", .int r)])
  | .shi r b o, x => ∃ dx, H x = some (.ins c.shi dx [("row", .int r), ("by", .int b), ("other", .int o)])
  | .loc a, x => ∃ dx, H x = some (.ins c.loc dx [("at", .int a)])
  | .at' r p, x => ∃ dx y, H x = some (.ins c.at' dx [("row", .int r), ("place", .ref y)]) ∧ FormAt c H p y
  | .pair sg l r, x => ∃ dx y z, H x = some (.ins c.pair dx [("sign", .str sg), ("left", .ref y), ("right", .ref z)]) ∧ FormAt c H l y ∧ FormAt c H r z
  | .cho t l r, x => ∃ dx u y z, H x = some (.ins c.cho dx [("test", .ref u), ("left", .ref y), ("right", .ref z)]) ∧ FormAt c H t u ∧ FormAt c H l y ∧ FormAt c H r z
theorem FormAt.same {c : Cs} {H H' : Hp} (s : Same H H') : ∀ {F : Fm} {x : Addr}, FormAt c H F x → FormAt c H' F x
  | .num _, _, ⟨dx, h⟩ => ⟨dx, s _ _ h⟩
  | .here, _, ⟨dx, h⟩ => ⟨dx, s _ _ h⟩
  | .cell _, _, ⟨dx, h⟩ => ⟨dx, s _ _ h⟩
  | .shi _ _ _, _, ⟨dx, h⟩ => ⟨dx, s _ _ h⟩
  | .loc _, _, ⟨dx, h⟩ => ⟨dx, s _ _ h⟩
  | .at' _ _, _, ⟨dx, y, h, p⟩ => ⟨dx, y, s _ _ h, FormAt.same s p⟩
  | .pair _ _ _, _, ⟨dx, y, z, h, p, q⟩ => ⟨dx, y, z, s _ _ h, FormAt.same s p, FormAt.same s q⟩
  | .cho _ _ _, _, ⟨dx, u, y, z, h, o, p, q⟩ => ⟨dx, u, y, z, s _ _ h, FormAt.same s o, FormAt.same s p, FormAt.same s q⟩
structure SpotAt (c : Cs) (K : PySem.W.Frag) (H : Hp) (x : Addr) (S : SpotD) : Prop where
  ex : ∃ dx l f e o, H x = some (.ins c.spot dx [("lengths", .ref l), ("functions", .ref f), ("cells", .ref e), ("place", .int S.place), ("own", .ref o)]) ∧ SqL K H l (S.lens.map V.int) ∧ SqL K H e (S.cells.map V.int) ∧ SqL K H o (S.own.map V.int)
theorem SpotAt.same {c : Cs} {K : PySem.W.Frag} {H H' : Hp} {x : Addr} {S : SpotD} (s : Same H H') (h : SpotAt c K H x S) : SpotAt c K H' x S := by
  obtain ⟨dx, l, f, e, o, h1, h2, h3, h4⟩ := h.ex
  exact ⟨dx, l, f, e, o, s _ _ h1, sql_same h2 s, sql_same h3 s, sql_same h4 s⟩
def SpotD.start (S : SpotD) (r : Int) : Int := (S.lens.take r.toNat).sum
def SpotD.len (S : SpotD) (r : Int) : Int := S.lens.getD r.toNat 0
def SpotD.cellAt (S : SpotD) (r q : Int) : Int := S.cells.getD (S.start r + q).toNat 0
structure SpotOk (S : SpotD) : Prop where
  ln : ∀ v ∈ S.lens, 0 ≤ v
  tot : (S.cells.length : Int) = S.lens.sum
  ck : ∀ v ∈ S.cells, Kin v
  ok' : ∀ v ∈ S.own, Kin v
  pl : Kin S.place
def SpotD.has (S : SpotD) (r : Int) : Prop := 0 ≤ r ∧ r.toNat < S.lens.length
theorem cell_in {S : SpotD} (o : SpotOk S) {r q : Int} (h : S.has r) (h0 : 0 ≤ q) (h1 : q < S.len r) : 0 ≤ S.start r + q ∧ S.start r + q < S.cells.length ∧ Kin (S.cellAt r q) := by
  have m := sum_mono o.ln r.toNat
  have m2 := sum_mono o.ln (r.toNat + 1)
  have e := sum_take_succ h.2
  have t := o.tot
  unfold SpotD.start SpotD.len at *
  have a : 0 ≤ (S.lens.take r.toNat).sum + q := by omega
  have b : (S.lens.take r.toNat).sum + q < S.cells.length := by omega
  refine ⟨a, b, ?_⟩
  unfold SpotD.cellAt SpotD.start
  exact o.ck _ (L2.getD_mem (by omega))
def ev (S : SpotD) : Fm → Res
  | .num n => .ok n
  | .here => .ok S.place
  | .cell r => if S.len r = 1 then .ok (S.cellAt r 0) else .ok (S.cellAt r S.place)
  | .shi r b o => if 0 ≤ S.place + b ∧ S.place + b < S.len r then .ok (S.cellAt r (S.place + b)) else .ok o
  | .loc a => .ok (S.own.getD a.toNat 0)
  | .at' r p => match ev S p with
    | .ok q => if 0 ≤ q ∧ q < S.len r then .ok (S.cellAt r q) else .outside
    | e => e
  | .pair sg l r => match ev S l with
    | .ok a => (match ev S r with
      | .ok b => (match doneR sg a b with
        | some n => .ok n
        | none => .nought)
      | e => e)
    | e => e
  | .cho t l r => match ev S t with
    | .ok a => if a ≠ 0 then ev S l else ev S r
    | e => e
def WF (S : SpotD) : Fm → Prop
  | .num n => Kin n
  | .here => True
  | .cell r => S.has r ∧ 1 ≤ S.len r ∧ (S.len r ≠ 1 → 0 ≤ S.place ∧ S.place < S.len r)
  | .shi r _ o => S.has r ∧ Kin o
  | .loc a => 0 ≤ a ∧ a.toNat < S.own.length
  | .at' r p => S.has r ∧ WF S p
  | .pair sg l r => sg ∈ signs ∧ WF S l ∧ WF S r
  | .cho t l r => WF S t ∧ WF S l ∧ WF S r
theorem ev_kin {S : SpotD} (o : SpotOk S) : ∀ {F : Fm} {n : Int}, WF S F → ev S F = .ok n → Kin n
  | .num _, _, h, e => by cases e; exact h
  | .here, _, _, e => by cases e; exact o.pl
  | .cell r, n, h, e => by
    unfold ev at e
    split at e
    · rename_i z; cases e; exact (cell_in o h.1 (by omega) (by omega)).2.2
    · rename_i z; cases e; exact (cell_in o h.1 (h.2.2 z).1 (h.2.2 z).2).2.2
  | .shi r b o', n, h, e => by
    unfold ev at e
    split at e
    · rename_i z; cases e; exact (cell_in o h.1 z.1 z.2).2.2
    · cases e; exact h.2
  | .loc a, n, h, e => by cases e; exact o.ok' _ (L2.getD_mem h.2)
  | .at' r p, n, h, e => by
    unfold ev at e
    split at e
    · rename_i q hq
      split at e
      · rename_i z; cases e; exact (cell_in o h.1 z.1 z.2).2.2
      · cases e
    · rename_i e' hq; exact absurd e (hq n)
  | .pair sg l r, n, h, e => by
    unfold ev at e
    split at e
    · rename_i a ha
      split at e
      · rename_i b hb
        split at e
        · rename_i m hm; cases e; exact done_in h.1 (ev_kin o h.2.1 ha) (ev_kin o h.2.2 hb) hm
        · cases e
      · rename_i e' hq; exact absurd e (hq n)
    · rename_i e' hq; exact absurd e (hq n)
  | .cho t l r, n, h, e => by
    unfold ev at e
    split at e
    · split at e
      · exact ev_kin o h.2.1 e
      · exact ev_kin o h.2.2 e
    · rename_i e' hq; exact absurd e (hq n)
def Out (CN OU : Addr) (r : Res) (H : Hp) (Q : VK) (E : XK) : Prop := ∀ H', Same H H' → match r with
  | .ok n => Q (.int n) H'
  | .nought => E (.ref CN) none H'
  | .outside => E (.ref OU) none H'
def Worth (P : Program) (w : World) (K : PySem.W.Frag) (mg : Str → Option Value) (base : Heap) (c : Cs) (CN OU : Addr) (k : Nat) (F : Fm) : Prop :=
  ∀ (x : Addr) (H : Hp), FormAt c H F x → ∃ C dx fs sp, H x = some (.ins C dx fs) ∧ DispX P w K mg base (CXe P w base) k "worth" C sp ∧ fs.lookup ("worth" : Str) = none ∧
    ∀ (s : Addr) (S : SpotD) (Q : VK) (E : XK), SpotAt c K H s S → SpotOk S → WF S F → Out CN OU (ev S F) H Q E → sp [.ref x, .ref s] H Q E
theorem Worth.mono {P : Program} {w : World} {K : PySem.W.Frag} {mg : Str → Option Value} {base : Heap} {c : Cs} {CN OU : Addr} {j k : Nat} {F : Fm} (h : Worth P w K mg base c CN OU j F) (l : j ≤ k) : Worth P w K mg base c CN OU k F := fun x H q => by
  obtain ⟨C, dx, fs, sp, a, b, d, e⟩ := h x H q
  exact ⟨C, dx, fs, sp, a, b.mono l, d, e⟩
theorem Out.same {CN OU : Addr} {r : Res} {H H' : Hp} {Q : VK} {E : XK} (o : Out CN OU r H Q E) (s : Same H H') : Out CN OU r H' Q E := fun H2 s2 => o H2 (s.trans s2)
end FM
namespace L2
open PySem PySem.Spec PyProof.Rows
structure Air (X : Cx) (H : Hp) (h : Heap) (e : Addr) (cls : Value) : Prop where
  be : X.base.get? e = none
  se : X.s₀.heap.get? e = none
  fe : H e = none
  tr : ∃ oe vs T oT ts x, h.get? e = some oe ∧ oe.cls = cls ∧ oe.data = .fields vs ∧ vs[1]? = some (.ref T) ∧ T ≠ e ∧ h.get? T = some oT ∧ oT.data = .fields ts ∧ ts[3]? = some x ∧ X.base.get? T = none ∧ X.s₀.heap.get? T = none ∧ H T = none
section
variable {X : Cx} {pins : List (Addr × Obj)} {σ : St} {H : Hp} {s : Shared} {e : Addr} {cls : Value}
end
def AirPass (X : Cx) (E : XK) : Prop := ∀ (pins : List (Addr × Obj)) (σ : St) (H : Hp) (s : Shared) (e C : Addr), Inv X pins σ H s → Air X H s.heap e (.ref C) → E (.ref C) none H → X.xe (.ref e) s
end L2
namespace L2
open PySem PySem.Spec PyProof.Rows
section
variable {prog : Program} {w : World} {A : Around} {R : Result → Shared → Prop} {s : Shared}
end
abbrev Cx.compX (X : Cx) (scope : Scope) (cl : List (Str × Addr)) (NY : List Str) (s3 : Shared) (H3 : Hp) (fp : List Addr) (E : XK) : Cx :=
  (X.comp scope cl NY s3 H3 fp).wish fun e s' => ∃ (pins : List (Addr × Obj)) (σ : St) (H : Hp) (s : Shared), Inv (X.comp scope cl NY s3 H3 fp) pins σ H s ∧ CXe X.prog X.w X.base X.stack H s E e s'
section
variable {X : Cx} {pins : List (Addr × Obj)} {σ : St} {H H' : Hp} {s s' : Shared} {e C T : Addr}
end
section
variable {X : Cx} {tg : Expr}
end
end L2
namespace L2
open PySem PySem.Spec PyProof.Rows
structure Hd (B : Hp) (L : List (Addr × HO)) (H : Hp) : Prop where
  nd : (L.map Prod.fst).Nodup
  nw : ∀ p ∈ L, B p.1 = none
  st : ∀ p ∈ L, H p.1 = some p.2
  sm : Same B H
namespace Hd
variable {B : Hp} {L : List (Addr × HO)} {H H' : Hp} {a b : Addr} {o o' : HO}
theorem base : Hd B [] B := ⟨List.nodup_nil, (fun _ h => nomatch h), (fun _ h => nomatch h), Same.refl B⟩
theorem get (h : Hd B L H) (i : Nat) (e : L[i]? = some (a, o)) : H a = some o := h.st _ (List.mem_of_getElem? e)
theorem same (h : Hd B L H) (s : Same H H') : Hd B L H' := ⟨h.nd, h.nw, fun p m => s _ _ (h.st p m), h.sm.trans s⟩
theorem new (h : Hd B L H) (n : H a = none) : Hd B ((a, o) :: L) (upd H a o) := by
  have ne : ∀ p ∈ L, p.1 ≠ a := fun p m => ne_of_none (h.st p m) n
  refine ⟨List.nodup_cons.mpr ⟨fun m => ?_, h.nd⟩, fun p m => ?_, fun p m => ?_, same_upd h.sm (h.sm.free n)⟩
  · obtain ⟨p, mp, e⟩ := List.mem_map.mp m
    exact ne p mp e
  · rcases List.mem_cons.mp m with rfl | m
    · exact h.sm.free n
    · exact h.nw p m
  · rcases List.mem_cons.mp m with rfl | m
    · exact upd_same
    · rw [upd_ne (ne p m)]; exact h.st p m
theorem fst_set (i : Nat) (e : L[i]? = some (a, o)) : (L.set i (a, o')).map Prod.fst = L.map Prod.fst := by
  rw [List.map_set]
  apply List.ext_getElem?
  intro j
  rw [List.getElem?_set]
  split
  · rename_i q
    subst q
    split
    · rw [List.getElem?_map, e]; rfl
    · rename_i q
      rw [List.getElem?_eq_none (by omega)]
  · rfl
theorem ne (h : Hd B L H) (i j : Nat) (ei : L[i]? = some (a, o)) (ej : L[j]? = some (b, o')) (hij : i ≠ j) : a ≠ b := fun e => by
  subst e
  have h1 : (L.map Prod.fst)[i]? = some a := by rw [List.getElem?_map, ei]; rfl
  have h2 : (L.map Prod.fst)[j]? = some a := by rw [List.getElem?_map, ej]; rfl
  obtain ⟨b1, e1⟩ := List.getElem?_eq_some_iff.mp h1
  obtain ⟨b2, e2⟩ := List.getElem?_eq_some_iff.mp h2
  have key : ∀ (l : List Addr), l.Nodup → ∀ (i j : Nat) (b1 : i < l.length) (b2 : j < l.length), l[i] = l[j] → i = j := by
    intro l hl
    induction l with
    | nil => intro i j b1; cases b1
    | cons x r ih =>
      intro i j b1 b2 q
      have nr := List.nodup_cons.mp hl
      cases i with
      | zero =>
        cases j with
        | zero => rfl
        | succ j => exact absurd (by rw [List.getElem_cons_zero, List.getElem_cons_succ] at q; rw [q]; exact List.getElem_mem _) nr.1
      | succ i =>
        cases j with
        | zero => exact absurd (by rw [List.getElem_cons_zero, List.getElem_cons_succ] at q; rw [← q]; exact List.getElem_mem _) nr.1
        | succ j => rw [List.getElem_cons_succ, List.getElem_cons_succ] at q; rw [ih nr.2 i j _ _ q]
  exact hij (key _ h.nd i j b1 b2 (e1.trans e2.symm))
theorem chg (h : Hd B L H) (i : Nat) (e : L[i]? = some (a, o)) (k : ∀ c u, c ≠ a → H c = some u → H' c = some u) (q : H' a = some o') : Hd B (L.set i (a, o')) H' := by
  have nb : B a = none := h.nw _ (List.mem_of_getElem? e)
  refine ⟨by rw [fst_set i e]; exact h.nd, fun p m => ?_, fun p m => ?_, fun c u z => k c u (ne_of_none z nb) (h.sm c u z)⟩
  · rcases List.mem_or_eq_of_mem_set m with m | rfl
    · exact h.nw p m
    · exact nb
  · obtain ⟨j, lt, ej⟩ := List.getElem_of_mem m
    have ej : (L.set i (a, o'))[j]? = some p := by rw [List.getElem?_eq_getElem lt, ej]
    rw [List.getElem?_set] at ej
    split at ej
    · split at ej
      · cases ej; exact q
      · cases ej
    · rename_i hij
      obtain ⟨c, u⟩ := p
      exact k c u (Ne.symm (h.ne i j e ej hij)) (h.get j ej)
theorem put (h : Hd B L H) (i : Nat) (e : L[i]? = some (a, o)) : Hd B (L.set i (a, o')) (upd H a o') := h.chg i e (fun c u n z => by rw [upd_ne n]; exact z) upd_same
theorem sql (h : Hd B L H) {K : PySem.W.Frag} {xs : List V} (q : SqL K B a xs) : SqL K H a xs := sql_same q h.sm
theorem lst (h : Hd B L H) {K : PySem.W.Frag} {xs : List V} (i : Nat) (e : L[i]? = some (a, .lst xs)) : SqL K H a xs := SqL.of (h.get i e)
theorem tup (h : Hd B L H) {K : PySem.W.Frag} {xs : List V} (i : Nat) (e : L[i]? = some (a, .tup xs)) : SqT K H a xs := SqT.of (h.get i e)
theorem sub {L' : List (Addr × HO)} (h : Hd B L H) (s : List.Sublist L' L) : Hd B L' H := ⟨h.nd.sublist (s.map _), fun p m => h.nw p (s.subset m), fun p m => h.st p (s.subset m), h.sm⟩
theorem tl {p : Addr × HO} (h : Hd B (p :: L) H) : Hd B L H := h.sub (List.sublist_cons_self _ _)
theorem free (h : Hd B L H) (n : H a = none) : B a = none := h.sm.free n
theorem add (h : Hd B L H) (n : ∀ p ∈ L, p.1 ≠ a) (nb : B a = none) (e : H a = some o) : Hd B ((a, o) :: L) H := by
  refine ⟨List.nodup_cons.mpr ⟨fun m => ?_, h.nd⟩, fun p m => ?_, fun p m => ?_, h.sm⟩
  · obtain ⟨p, mp, e⟩ := List.mem_map.mp m
    exact n p mp e
  · rcases List.mem_cons.mp m with rfl | m
    · exact nb
    · exact h.nw p m
  · rcases List.mem_cons.mp m with rfl | m
    · exact e
    · exact h.st p m
theorem made {C x dx l : Addr} {ox ol : HO} (h : Hd B L H) (nx : H x = none) (ndx : H dx = none) (ne : dx ≠ x) (k : ∀ b u, b ≠ x → upd (upd H dx (.own x)) x (.ins C dx []) b = some u → H' b = some u)
    (nl : upd (upd H dx (.own x)) x (.ins C dx []) l = none) (ex : H' x = some ox) (el : H' l = some ol) : Hd B ((l, ol) :: (x, ox) :: (dx, .own x) :: L) H' := by
  have h1 : Hd B ((dx, .own x) :: L) (upd H dx (.own x)) := h.new ndx
  have h2 : Hd B ((x, .ins C dx []) :: (dx, .own x) :: L) (upd (upd H dx (.own x)) x (.ins C dx [])) := h1.new (by rw [upd_ne (Ne.symm ne)]; exact nx)
  have h3 : Hd B ((x, ox) :: (dx, .own x) :: L) H' := h2.chg 0 rfl k ex
  refine h3.add (fun p m => ?_) (h2.free nl) el
  rcases List.mem_cons.mp m with rfl | m
  · exact ne_of_none (h2.get 0 rfl) nl
  · exact ne_of_none (h2.st p (List.mem_cons_of_mem _ m)) nl
end Hd
section
variable {X : Cx} {st : Stmt} {t : TS} {e : Expr} {te : TE}
def tMid (t : TS) : TS := fun D σ H => ∃ M : St → Hp → Prop, t { D with nx := M } σ H ∧ ∀ σ' H', M σ' H' → D.nx σ' H'
theorem ps_mid (h : PS X st t) : PS X st (tMid t) := by
  intro pins s σ H D I q
  obtain ⟨M, q, k⟩ := q
  refine thn (h pins s σ H _ I q) fun f s1 z => ?_
  cases f with
  | next => exact let ⟨σ', H', I', z⟩ := z; ⟨σ', H', I', k _ _ z⟩
  | ret v => exact z
  | brk => exact z
  | cont => exact z
def tMidE (te : TE) : TE := fun σ H Q => ∃ M : VK, te σ H M ∧ ∀ v H', M v H' → Q v H'
end
end L2
namespace L2
open PySem PySem.Spec PyProof.Rows
structure MkN (K : PySem.W.Frag) (C : Addr) : Prop where
  makes : PySem.W.makesIn K C = true
  init : PySem.W.findIn K (.ref C) "__init__" = some (some (.builtin "object.__init__"))
  kp : PySem.W.keepIn K (.ref C) = true
def tMakeN (C : Addr) : TE := fun _ H Q => ∀ x dx, H x = none → H dx = none → dx ≠ x → Q (.ref x) (upd (upd H dx (.own x)) x (.ins C dx []))
section
variable {X : Cx} {C : Addr} {x : Str} {p pos : Pos}
theorem pe_makeN (M : MkN X.K C) (hg : Gl X x) (hm : X.mg x = some (.ref C)) (hdb : (x == ("__debug__" : Str)) = false := by decide) : PE X (.Call (.Name x p) [] [] pos) (tMakeN C) := by
  intro pins s σ H Q I h
  refine wpAny_Call_Name_kw (ld_glob I hg hm ?_ hdb)
  refine PySem.W.callWith_K0 I.kIn M.kp ?_
  have I2 := Inv.made (C := C) I
  have q := h (s.heap.objs.size + 1) s.heap.objs.size (I.hok.fresh (Nat.le_succ _)) (I.hok.fresh (Nat.le_refl _)) (Nat.ne_of_lt (Nat.lt_succ_self _))
  refine wpAny_call (make_map0 I.kIn M.makes M.init (fun self => PySem.W.Looks.of_pure (PySem.W.oi_bind self)) ?_)
  have Y := PySem.W.makes_of (M := model X.prog X.w) I.kIn M.makes
  have e2 : ((s.heap.push PySem.W.emptyDict).push (PySem.W.instObj C s.heap.objs.size)).get? (s.heap.objs.size + 1) = some (PySem.W.instObj C s.heap.objs.size) := by
    have := Heap.get?_push_size (s.heap.push PySem.W.emptyDict) (o := PySem.W.instObj C s.heap.objs.size) rfl
    rwa [Heap.size_push] at this
  have t1 : PySem.W.Looks (model X.prog X.w) ((s.heap.push PySem.W.emptyDict).push (PySem.W.instObj C s.heap.objs.size)) (typeOf (.ref (s.heap.objs.size + 1))) (.ref C) := (PySem.W.Looks.ld e2).andThen .now
  have kp : ∀ b o, s.heap.get? b = some o → ((s.heap.push PySem.W.emptyDict).push (PySem.W.instObj C s.heap.objs.size)).get? b = some o := fun b o e => Heap.get?_push_of_some _ (Heap.get?_push_of_some _ e)
  have t2 : PySem.W.Looks (model X.prog X.w) ((s.heap.push PySem.W.emptyDict).push (PySem.W.instObj C s.heap.objs.size)) (isInstance (.ref (s.heap.objs.size + 1)) (.type "object")) true := t1.andThen (Y.top.keeps kp)
  refine codeAny_call_builtin PySem.W.oi_plain PySem.W.entry_oi (PySem.W.check_slot PySem.W.oi_kind PySem.W.oi_split t2 (PySem.W.oi_args _) ?_)
  rw [PySem.W.oi_run]
  exact wpAny_pure ⟨rfl, .ref (s.heap.objs.size + 1), _, I2, rfl, q⟩
end
end L2
namespace F2
open PySem L2
abbrev Kin := FM.Kin
abbrev SpotD := FM.SpotD
abbrev Res := FM.Res
mutual
inductive Fm
  | num (n : Int) | here | cell (r : Int) | shi (r b o : Int) | loc (a : Int) | at' (r : Int) (p : Fm) | pair (sg : Str) (l r : Fm) | cho (t l r : Fm) | call (a : Int) (hs : Fms)
inductive Fms
  | nil | cons (f : Fm) (r : Fms)
end
instance : Inhabited Fm := ⟨.here⟩
def Fms.len : Fms → Nat
  | .nil => 0
  | .cons _ r => r.len + 1
structure Cs extends FM.Cs where
  call : Addr
mutual
def FormAt (c : Cs) (H : Hp) : Fm → Addr → Prop
  | .num n, x => ∃ dx, H x = some (.ins c.num dx [("number", .int n)])
  | .here, x => ∃ dx, H x = some (.ins c.here dx [])
  | .cell r, x => ∃ dx, H x = some (.ins c.cell dx [("row", .int r)])
  | .shi r b o, x => ∃ dx, H x = some (.ins c.shi dx [("row", .int r), ("by", .int b), ("other", .int o)])
  | .loc a, x => ∃ dx, H x = some (.ins c.loc dx [("at", .int a)])
  | .at' r p, x => ∃ dx y, H x = some (.ins c.at' dx [("row", .int r), ("place", .ref y)]) ∧ FormAt c H p y
  | .pair sg l r, x => ∃ dx y z, H x = some (.ins c.pair dx [("sign", .str sg), ("left", .ref y), ("right", .ref z)]) ∧ FormAt c H l y ∧ FormAt c H r z
  | .cho t l r, x => ∃ dx u y z, H x = some (.ins c.cho dx [("test", .ref u), ("left", .ref y), ("right", .ref z)]) ∧ FormAt c H t u ∧ FormAt c H l y ∧ FormAt c H r z
  | .call a hs, x => ∃ dx l ys, H x = some (.ins c.call dx [("at", .int a), ("handed", .ref l)]) ∧ H l = some (.lst (ys.map V.ref)) ∧ FormsAt c H hs ys
def FormsAt (c : Cs) (H : Hp) : Fms → List Addr → Prop
  | .nil, ys => ys = []
  | .cons f r, ys => ∃ y t, ys = y :: t ∧ FormAt c H f y ∧ FormsAt c H r t
end
mutual
theorem FormAt.same {c : Cs} {H H' : Hp} (s : Same H H') : ∀ {F : Fm} {x : Addr}, FormAt c H F x → FormAt c H' F x
  | .num _, _, h => by obtain ⟨dx, h⟩ := h; exact ⟨dx, s _ _ h⟩
  | .here, _, h => by obtain ⟨dx, h⟩ := h; exact ⟨dx, s _ _ h⟩
  | .cell _, _, h => by obtain ⟨dx, h⟩ := h; exact ⟨dx, s _ _ h⟩
  | .shi _ _ _, _, h => by obtain ⟨dx, h⟩ := h; exact ⟨dx, s _ _ h⟩
  | .loc _, _, h => by obtain ⟨dx, h⟩ := h; exact ⟨dx, s _ _ h⟩
  | .at' _ _, _, h => by obtain ⟨dx, y, h, p⟩ := h; exact ⟨dx, y, s _ _ h, FormAt.same s p⟩
  | .pair _ _ _, _, h => by obtain ⟨dx, y, z, h, p, q⟩ := h; exact ⟨dx, y, z, s _ _ h, FormAt.same s p, FormAt.same s q⟩
  | .cho _ _ _, _, h => by obtain ⟨dx, u, y, z, h, o, p, q⟩ := h; exact ⟨dx, u, y, z, s _ _ h, FormAt.same s o, FormAt.same s p, FormAt.same s q⟩
  | .call _ _, _, h => by obtain ⟨dx, l, ys, h, e, p⟩ := h; exact ⟨dx, l, ys, s _ _ h, s _ _ e, FormsAt.same s p⟩
theorem FormsAt.same {c : Cs} {H H' : Hp} (s : Same H H') : ∀ {F : Fms} {ys : List Addr}, FormsAt c H F ys → FormsAt c H' F ys
  | .nil, _, h => h
  | .cons _ _, _, h => by obtain ⟨y, t, e, p, q⟩ := h; exact ⟨y, t, e, FormAt.same s p, FormsAt.same s q⟩
end
theorem FormsAt.len {c : Cs} {H : Hp} : ∀ {F : Fms} {ys : List Addr}, FormsAt c H F ys → ys.length = F.len
  | .nil, _, h => by cases (show _ = [] from h); rfl
  | .cons _ r, _, h => by
    obtain ⟨y, t, e, _, q⟩ := h
    subst e
    show t.length + 1 = r.len + 1
    rw [FormsAt.len q]
abbrev Fn := Nat × Fm
def bodyOf (fs : List Fn) (a : Int) : Fm := (fs.getD a.toNat (0, .here)).2
def handsOf (fs : List Fn) (a : Int) : Nat := (fs.getD a.toNat (0, .here)).1
structure FunsAt (c : Cs) (K : PySem.W.Frag) (H : Hp) (f : Addr) (fs : List Fn) : Prop where
  ex : ∃ ts : List Addr, SqL K H f (ts.map V.ref) ∧ ts.length = fs.length ∧ ∀ i, i < fs.length → ∃ b, SqT K H (ts.getD i 0) [.int ((fs.getD i (0, .here)).1 : Int), .ref b] ∧ FormAt c H (fs.getD i (0, .here)).2 b
theorem sqt_same {K : PySem.W.Frag} {H H' : Hp} {a : Addr} {xs : List V} (h : SqT K H a xs) (s : Same H H') : SqT K H' a xs := by
  rcases h with h | h
  · exact .inl (h.imp (fun z => s _ _ z) fun ⟨o, z⟩ => ⟨o, s _ _ z⟩)
  · exact .inr h
theorem FunsAt.same {c : Cs} {K : PySem.W.Frag} {H H' : Hp} {f : Addr} {fs : List Fn} (h : FunsAt c K H f fs) (s : Same H H') : FunsAt c K H' f fs := by
  obtain ⟨ts, a, b, d⟩ := h.ex
  exact ⟨ts, sql_same a s, b, fun i hi => let ⟨x, p, q⟩ := d i hi; ⟨x, sqt_same p s, q.same s⟩⟩
structure SpotAt (c : Cs) (K : PySem.W.Frag) (H : Hp) (x : Addr) (S : SpotD) (fs : List Fn) : Prop where
  ex : ∃ dx l f e o, H x = some (.ins c.spot dx [("lengths", .ref l), ("functions", .ref f), ("cells", .ref e), ("place", .int S.place), ("own", .ref o)]) ∧ SqL K H l (S.lens.map V.int) ∧ FunsAt c K H f fs ∧ SqL K H e (S.cells.map V.int) ∧ SqL K H o (S.own.map V.int)
theorem SpotAt.same {c : Cs} {K : PySem.W.Frag} {H H' : Hp} {x : Addr} {S : SpotD} {fs : List Fn} (s : Same H H') (h : SpotAt c K H x S fs) : SpotAt c K H' x S fs := by
  obtain ⟨dx, l, f, e, o, h1, h2, h3, h4, h5⟩ := h.ex
  exact ⟨dx, l, f, e, o, s _ _ h1, sql_same h2 s, h3.same s, sql_same h4 s, sql_same h5 s⟩
theorem SpotAt.old {c : Cs} {K : PySem.W.Frag} {H : Hp} {x : Addr} {S : SpotD} {fs : List Fn} (h : SpotAt c K H x S fs) : FM.SpotAt c.toCs K H x S := by
  obtain ⟨dx, l, f, e, o, h1, h2, h3, h4, h5⟩ := h.ex
  exact ⟨dx, l, f, e, o, h1, h2, h4, h5⟩
inductive RL | ok (l : List Int) | bad (e : Res)
mutual
def ev (cl : Int → List Int → Res) (S : SpotD) : Fm → Res
  | .num n => .ok n
  | .here => .ok S.place
  | .cell r => if S.len r = 1 then .ok (S.cellAt r 0) else .ok (S.cellAt r S.place)
  | .shi r b o => if 0 ≤ S.place + b ∧ S.place + b < S.len r then .ok (S.cellAt r (S.place + b)) else .ok o
  | .loc a => .ok (S.own.getD a.toNat 0)
  | .at' r p => match ev cl S p with
    | .ok q => if 0 ≤ q ∧ q < S.len r then .ok (S.cellAt r q) else .outside
    | e => e
  | .pair sg l r => match ev cl S l with
    | .ok a => (match ev cl S r with
      | .ok b => (match FM.doneR sg a b with
        | some n => .ok n
        | none => .nought)
      | e => e)
    | e => e
  | .cho t l r => match ev cl S t with
    | .ok a => if a ≠ 0 then ev cl S l else ev cl S r
    | e => e
  | .call a hs => match evs cl S hs with
    | .ok l => cl a l
    | .bad e => e
def evs (cl : Int → List Int → Res) (S : SpotD) : Fms → RL
  | .nil => .ok []
  | .cons f r => match ev cl S f with
    | .ok n => (match evs cl S r with
      | .ok l => .ok (n :: l)
      | .bad e => .bad e)
    | e => .bad e
end
def callK (fs : List Fn) (S : SpotD) : Nat → Int → List Int → Res
  | 0, _, _ => .outside
  | k + 1, a, l => ev (callK fs S k) { S with own := l } (bodyOf fs a)
abbrev worth (fs : List Fn) (k : Nat) (S : SpotD) (F : Fm) : Res := ev (callK fs S k) S F
mutual
def WF (fs : List Fn) (k : Nat) (S : SpotD) : Fm → Prop
  | .num n => Kin n
  | .here => True
  | .cell r => S.has r ∧ 1 ≤ S.len r ∧ (S.len r ≠ 1 → 0 ≤ S.place ∧ S.place < S.len r)
  | .shi r _ o => S.has r ∧ Kin o
  | .loc a => 0 ≤ a ∧ a.toNat < S.own.length
  | .at' r p => S.has r ∧ WF fs k S p
  | .pair sg l r => sg ∈ FM.signs ∧ WF fs k S l ∧ WF fs k S r
  | .cho t l r => WF fs k S t ∧ WF fs k S l ∧ WF fs k S r
  | .call a hs => 0 ≤ a ∧ a.toNat < k ∧ a.toNat < fs.length ∧ hs.len = handsOf fs a ∧ WFs fs k S hs
def WFs (fs : List Fn) (k : Nat) (S : SpotD) : Fms → Prop
  | .nil => True
  | .cons f r => WF fs k S f ∧ WFs fs k S r
end
def Bodies (fs : List Fn) : Prop := ∀ (a : Int) (S : SpotD) (l : List Int), 0 ≤ a → a.toNat < fs.length → l.length = handsOf fs a → WF fs a.toNat { S with own := l } (bodyOf fs a)
mutual
theorem WF.mono {fs : List Fn} {j k : Nat} {S : SpotD} (h : j ≤ k) : ∀ {F : Fm}, WF fs j S F → WF fs k S F
  | .num _, w => w
  | .here, w => w
  | .cell _, w => w
  | .shi _ _ _, w => w
  | .loc _, w => w
  | .at' _ _, w => ⟨w.1, WF.mono h w.2⟩
  | .pair _ _ _, w => ⟨w.1, WF.mono h w.2.1, WF.mono h w.2.2⟩
  | .cho _ _ _, w => ⟨WF.mono h w.1, WF.mono h w.2.1, WF.mono h w.2.2⟩
  | .call _ _, w => ⟨w.1, by have := w.2.1; omega, w.2.2.1, w.2.2.2.1, WFs.mono h w.2.2.2.2⟩
theorem WFs.mono {fs : List Fn} {j k : Nat} {S : SpotD} (h : j ≤ k) : ∀ {F : Fms}, WFs fs j S F → WFs fs k S F
  | .nil, _ => trivial
  | .cons _ _, w => ⟨WF.mono h w.1, WFs.mono h w.2⟩
end
mutual
theorem ev_mono {fs : List Fn} (hb : Bodies fs) {S T : SpotD} {j k k' : Nat} (h1 : j ≤ k) (h2 : j ≤ k') (ih : ∀ a l, 0 ≤ a → a.toNat < j → a.toNat < fs.length → l.length = handsOf fs a → callK fs T k a l = callK fs T k' a l) : ∀ {F : Fm}, WF fs j S F → ev (callK fs T k) S F = ev (callK fs T k') S F
  | .num _, _ => rfl
  | .here, _ => rfl
  | .cell _, _ => rfl
  | .shi _ _ _, _ => rfl
  | .loc _, _ => rfl
  | .at' r p, w => by unfold ev; rw [ev_mono hb h1 h2 ih w.2]
  | .pair sg l r, w => by unfold ev; rw [ev_mono hb h1 h2 ih w.2.1, ev_mono hb h1 h2 ih w.2.2]
  | .cho t l r, w => by unfold ev; rw [ev_mono hb h1 h2 ih w.1, ev_mono hb h1 h2 ih w.2.1, ev_mono hb h1 h2 ih w.2.2]
  | .call a hs, w => by
    unfold ev
    obtain ⟨e, el⟩ := evs_mono hb h1 h2 ih w.2.2.2.2
    rw [e]
    cases z : evs (callK fs T k') S hs with
    | bad _ => rfl
    | ok l =>
      exact ih a l w.1 w.2.1 w.2.2.1 (by rw [el l z]; exact w.2.2.2.1)
theorem evs_mono {fs : List Fn} (hb : Bodies fs) {S T : SpotD} {j k k' : Nat} (h1 : j ≤ k) (h2 : j ≤ k') (ih : ∀ a l, 0 ≤ a → a.toNat < j → a.toNat < fs.length → l.length = handsOf fs a → callK fs T k a l = callK fs T k' a l) : ∀ {F : Fms}, WFs fs j S F → evs (callK fs T k) S F = evs (callK fs T k') S F ∧ ∀ l, evs (callK fs T k') S F = .ok l → l.length = F.len
  | .nil, _ => ⟨rfl, fun l e => by cases (show RL.ok [] = RL.ok l from e); rfl⟩
  | .cons f r, w => by
    have e1 := ev_mono hb h1 h2 ih w.1
    obtain ⟨e2, el⟩ := evs_mono hb h1 h2 ih w.2
    refine ⟨by unfold evs; rw [e1, e2], fun l e => ?_⟩
    unfold evs at e
    split at e
    · split at e
      · rename_i l' z
        cases e
        show l'.length + 1 = r.len + 1
        rw [el l' z]
      · cases e
    · cases e
end
theorem evs_bad {cl : Int → List Int → Res} {S : SpotD} (n : Int) : ∀ {F : Fms}, evs cl S F ≠ .bad (.ok n)
  | .nil => fun e => by cases (show RL.ok [] = RL.bad _ from e)
  | .cons f r => fun e => by
    unfold evs at e
    split at e
    · split at e
      · cases e
      · rename_i e' z
        cases e
        exact evs_bad n z
    · rename_i e' z
      injection e with e
      exact z n e
mutual
theorem ev_kin {fs : List Fn} {S : SpotD} (o : FM.SpotOk S) {k : Nat} {cl : Int → List Int → Res} (hc : ∀ a l n, 0 ≤ a → a.toNat < k → a.toNat < fs.length → l.length = handsOf fs a → (∀ v ∈ l, Kin v) → cl a l = .ok n → Kin n) : ∀ {F : Fm} {n : Int}, WF fs k S F → ev cl S F = .ok n → Kin n
  | .num _, _, h, e => by cases (show FM.Res.ok _ = FM.Res.ok _ from e); exact h
  | .here, _, _, e => by cases (show FM.Res.ok _ = FM.Res.ok _ from e); exact o.pl
  | .cell r, n, h, e => by
    unfold ev at e
    split at e
    · rename_i z; cases e; exact (FM.cell_in o h.1 (by omega) (by omega)).2.2
    · rename_i z; cases e; exact (FM.cell_in o h.1 (h.2.2 z).1 (h.2.2 z).2).2.2
  | .shi r b o', n, h, e => by
    unfold ev at e
    split at e
    · rename_i z; cases e; exact (FM.cell_in o h.1 z.1 z.2).2.2
    · cases e; exact h.2
  | .loc a, n, h, e => by cases (show FM.Res.ok _ = FM.Res.ok _ from e); exact o.ok' _ (L2.getD_mem h.2)
  | .at' r p, n, h, e => by
    unfold ev at e
    split at e
    · rename_i q hq
      split at e
      · rename_i z; cases e; exact (FM.cell_in o h.1 z.1 z.2).2.2
      · cases e
    · rename_i e' hq; exact absurd e (hq n)
  | .pair sg l r, n, h, e => by
    unfold ev at e
    split at e
    · rename_i a ha
      split at e
      · rename_i b hb
        split at e
        · rename_i m hm; cases e; exact FM.done_in h.1 (ev_kin o hc h.2.1 ha) (ev_kin o hc h.2.2 hb) hm
        · cases e
      · rename_i e' hq; exact absurd e (hq n)
    · rename_i e' hq; exact absurd e (hq n)
  | .cho t l r, n, h, e => by
    unfold ev at e
    split at e
    · split at e
      · exact ev_kin o hc h.2.1 e
      · exact ev_kin o hc h.2.2 e
    · rename_i e' hq; exact absurd e (hq n)
  | .call a hs, n, h, e => by
    unfold ev at e
    split at e
    · rename_i l z
      obtain ⟨q1, q2⟩ := evs_kin o hc h.2.2.2.2 z
      exact hc a l n h.1 h.2.1 h.2.2.1 (by rw [q1]; exact h.2.2.2.1) q2 e
    · rename_i e' z
      cases e'
      · exact absurd z (evs_bad _)
      · cases e
      · cases e
theorem evs_kin {fs : List Fn} {S : SpotD} (o : FM.SpotOk S) {k : Nat} {cl : Int → List Int → Res} (hc : ∀ a l n, 0 ≤ a → a.toNat < k → a.toNat < fs.length → l.length = handsOf fs a → (∀ v ∈ l, Kin v) → cl a l = .ok n → Kin n) : ∀ {F : Fms} {l : List Int}, WFs fs k S F → evs cl S F = .ok l → l.length = F.len ∧ ∀ v ∈ l, Kin v
  | .nil, l, _, e => by cases (show RL.ok [] = RL.ok l from e); exact ⟨rfl, fun v hv => nomatch hv⟩
  | .cons f r, l, h, e => by
    unfold evs at e
    split at e
    · rename_i n hn
      split at e
      · rename_i l' z
        cases e
        obtain ⟨q1, q2⟩ := evs_kin o hc h.2 z
        refine ⟨by show l'.length + 1 = r.len + 1; rw [q1], fun v hv => ?_⟩
        rcases List.mem_cons.mp hv with rfl | hv
        · exact ev_kin o hc h.1 hn
        · exact q2 v hv
      · cases e
    · cases e
end
end F2
namespace F2
open PySem L2
abbrev SpotOk := FM.SpotOk
abbrev Out := FM.Out
def Worth (P : Program) (w : World) (K : PySem.W.Frag) (mg : Str → Option Value) (base : Heap) (c : Cs) (CN OU : Addr) (rm : Nat) (fs : List Fn) (k : Nat) (F : Fm) : Prop :=
  ∀ (x : Addr) (H : Hp), FormAt c H F x → ∃ C dx f sp, H x = some (.ins C dx f) ∧ DispX P w K mg base (CXe P w base) rm "worth" C sp ∧ f.lookup ("worth" : Str) = none ∧
    ∀ (s : Addr) (S : SpotD) (Q : VK) (E : XK) (H' : Hp), Same H H' → SpotAt c K H' s S fs → FM.SpotOk S → WF fs k S F → FM.Out CN OU (worth fs k S F) H' Q E → sp [.ref x, .ref s] H' Q E
theorem Worth.mono {P : Program} {w : World} {K : PySem.W.Frag} {mg : Str → Option Value} {base : Heap} {c : Cs} {CN OU : Addr} {j rm : Nat} {fs : List Fn} {k : Nat} {F : Fm} (h : Worth P w K mg base c CN OU j fs k F) (l : j ≤ rm) : Worth P w K mg base c CN OU rm fs k F := fun x H q => by
  obtain ⟨C, dx, f, sp, a, b, d, e⟩ := h x H q
  exact ⟨C, dx, f, sp, a, b.mono l, d, e⟩
def Fms.drop : Nat → Fms → Fms
  | 0, h => h
  | _ + 1, .nil => .nil
  | n + 1, .cons _ r => r.drop n
def Fms.All (p : Fm → Prop) : Fms → Prop
  | .nil => True
  | .cons f r => p f ∧ r.All p
theorem FormsAt.get {c : Cs} {H : Hp} {p : Fm → Prop} {fs : List Fn} {k : Nat} {S : SpotD} : ∀ {F : Fms} {ys : List Addr} {i : Nat} {y : Addr}, FormsAt c H F ys → F.All p → WFs fs k S F → ys[i]? = some y → ∃ f, F.drop i = .cons f (F.drop (i + 1)) ∧ FormAt c H f y ∧ p f ∧ WF fs k S f
  | .nil, ys, i, y, h, _, _, e => by
    cases (show ys = [] from h)
    cases e
  | .cons f r, ys, 0, y, h, a, w, e => by
    obtain ⟨y', t, rfl, q, _⟩ := h
    cases (show some y' = some y from e)
    exact ⟨f, rfl, q, a.1, w.1⟩
  | .cons f r, ys, i + 1, y, h, a, w, e => by
    obtain ⟨y', t, rfl, _, q⟩ := h
    exact FormsAt.get (F := r) (i := i) q a.2 w.2 e
def RL.pre (l : List Int) : RL → RL
  | .ok m => .ok (l ++ m)
  | .bad e => .bad e
end F2
namespace L2
open PySem PySem.Spec PyProof.Rows
section
variable {prog : Program} {w : World} {A : Around} {R : Result → Shared → Prop} {s : Shared}
theorem comp_loopF {elt target iter tst : Expr} {scope : Scope} {pos : Pos} {it acc : Value} {env : Env} (I : Nat → Shared → Prop)
    (turn : ∀ n s, I n s → wpAny (model prog w) A (pyNext it) (fun r s₁ => match r with
      | none => R (.ok .next) s₁
      | some v => wpAny (model prog w) A (letOwnedTupleGo target it v) (fun _ s₂ => wpAny (model prog w) A (assign target env v) (fun _ s₃ => wpAny (model prog w) A (isTrue tst env (eval tst env)) (fun ok t₃ => match ok with
          | true => wpAny (model prog w) A (eval elt env) (fun x s₄ => wpAny (model prog w) A (call (.builtin "list.append") [acc, x]) (fun _ s₅ => ∃ m, m < n ∧ I m s₅) (fun _ _ => False) s₄) (fun _ _ => False) t₃
          | false => ∃ m, m < n ∧ I m t₃) (fun _ _ => False) s₃) (fun _ _ => False) s₂) (fun _ _ => False) s₁) (fun _ _ => False) s)
    (n : Nat) (h : I n s) : codeAny (model prog w) A (.compLoop (.ListComp elt [⟨target, iter, [tst], 0⟩] scope pos) 0 it acc env) R s := by
  refine codeAny_loop rfl I (fun n s hI => ?_) n h
  show wpAny _ _ ((compTurn (.ListComp elt [⟨target, iter, [tst], 0⟩] scope pos) 0 it acc env).onRaise (fun x => do noteFrame x env; theTreesLotGoes x)) _ _ s
  refine wpAny_noted ?_
  rw [compTurn_list]
  refine wpAny_bind (wpAny_standAt (wpAny_bind (wpAny_mono (turn n s hI) (fun r s₁ h₁ => ?_) fun _ _ z => z.elim)))
  cases r with
  | none => exact wpAny_pure h₁
  | some v =>
    refine wpAny_bind (wpAny_mono h₁ (fun _ s₂ h₂ => ?_) fun _ _ z => z.elim)
    refine wpAny_bind (wpAny_mono h₂ (fun _ s₃ h₃ => ?_) fun _ _ z => z.elim)
    refine wpAny_bind (wpAny_tests_one (wpAny_mono h₃ (fun ok t₃ h₃ => ?_) fun _ _ z => z.elim))
    cases ok with
    | false => exact wpAny_pure ⟨rfl, h₃⟩
    | true =>
      refine wpAny_bind (wpAny_bind (wpAny_mono h₃ (fun x s₄ h₄ => ?_) fun _ _ z => z.elim))
      exact wpAny_bind (wpAny_mono h₄ (fun _ s₅ h₅ => wpAny_pure (wpAny_pure ⟨rfl, h₅⟩)) fun _ _ z => z.elim)
end
def CompWF (J : It) (g : TG) (tt : TT) (te : TE) (σY : St) (H1 : Hp) (D : Addr) (Q : VK) : Prop := ∃ W : Nat → Nat → St → Hp → Prop, (∃ m, W 0 m σY H1) ∧ ∀ i m σ' H', W i m σ' H' →
  (J.stop i H' ∧ Q (.ref D) H') ∨ (J.go i H' ∧ ∃ N : St → Hp → Prop, (∀ σ2 H2, N σ2 H2 → ∃ m', m' < m ∧ W (i + 1) m' σ2 H2) ∧
    ∀ x H2, J.yld i H' x H2 → g x σ' H2 fun σ3 H3 => tt σ3 H3 fun b H4 => if b = true then te σ3 H4 fun v H5 => ∃ xs, H5 D = some (.lst xs) ∧ xs.length < sizeLine ∧ N σ3 (upd H5 D (.lst (xs ++ [v]))) else N σ3 H4)
def tCompF (wi : TI) (g : TG) (tt : TT) (te : TE) (σ0 : St → Hp → St → Prop) : TE := fun σ H Q => wi σ H fun J H1 => ∃ σY, σ0 σ H1 σY ∧ ∀ D, H1 D = none → CompWF J g tt te σY (upd H1 D (.lst [])) D Q
section
variable {X : Cx} {tg : Expr}
theorem comp_coreF {iter elt tst : Expr} {scope : Scope} {pos pos' : Pos} {cl : List (Str × Addr)} {NY : List Str} {wi : TI} {g : TG} {tt : TT} {te : TE} {σ0 : St → Hp → St → Prop} (hc : X.calm = true) (S : Sees X scope cl) (hi : PI X tg iter wi)
    (hY : ∀ (s3 : Shared) (H3 : Hp) (fp : List Addr), PG (X.comp scope cl NY s3 H3 fp) tg g ∧ PT (X.comp scope cl NY s3 H3 fp) tst tt ∧ PE (X.comp scope cl NY s3 H3 fp) elt te)
    (h0 : ∀ (pins : List (Addr × Obj)) (σ : St) (H : Hp) (s3 : Shared) (σY : St), Inv X pins σ H s3 → σ0 σ H σY → σY.length = NY.length ∧ ∀ (i : Nat) (x : Str) (v : V), NY[i]? = some x → σY[i]? = some (some v) →
      ∃ c u, (((compEnvC scope cl 0 X.env).kindOf x = some .cell ∨ (compEnvC scope cl 0 X.env).kindOf x = some .free)) ∧ cl.lookup x = some c ∧ RelV v u ∧ s3.heap.IsCell c (some u))
    (hs : ∀ x, foldedSetIterable iter X.env x = pure x) {use : Option (Value → Sem Unit)} {R : Value → Shared → Prop} {pins : List (Addr × Obj)} {s : Shared} {σ : St} {H : Hp} {Q : VK} (I : Inv X pins σ H s) (h : tCompF wi g tt te σ0 σ H Q)
    (fin : ∀ (C D : Addr) (H5 : Hp) (s6 : Shared), CompEnd X pins σ H5 s6 C → Q (.ref D) H5 → compPost (model X.prog X.w) X.A X.xe use R (.ref D) C (.ok .next) s6) :
    wpAny (model X.prog X.w) X.A (comprehension (.ListComp elt [⟨tg, iter, [tst], 0⟩] scope pos) scope X.env pos' (newList []) (firstAsync [⟨tg, iter, [tst], 0⟩]) (firstIter [⟨tg, iter, [tst], 0⟩] X.env) use) R X.xe s := by
  refine wpAny_comprehension_free rfl hs S.clos S.kind S.names (thn (hi pins s σ H _ I h) fun v s1 h1 => thn h1 fun itv s2 h2 => ?_)
  obtain ⟨it, fp, tn, J, H2, e, I2, T, st2, f2, σY, hσ, hW⟩ := h2
  subst e
  refine wpAny_newObj_type ?_
  have I3 : Inv X pins σ (upd H2 s2.heap.objs.size (.lst [])) { s2 with heap := s2.heap.push { cls := .type "list", data := .seq ([] : List Value).toArray } } := I2.lnew (t' := s2.toks) (its := []) .nil (Nat.zero_le _)
  obtain ⟨W, ⟨m0, w0⟩, turn⟩ := hW s2.heap.objs.size (I2.hok.fresh (Nat.le_refl _))
  have ob2 := T.obj _ _ st2
  have hfp : ∀ b ∈ fp, FpOk X pins (upd H2 s2.heap.objs.size (.lst [])) b := fun b hb => by
    obtain ⟨o, q, _⟩ := ob2 b hb
    exact ⟨by rw [upd_ne (Nat.ne_of_lt (Heap.lt_size q))]; exact (f2 b hb).1, (f2 b hb).2⟩
  have hob : ∀ b ∈ fp, ∃ o, (s2.heap.push { cls := .type "list", data := .seq ([] : List Value).toArray }).get? b = some o := fun b hb => by
    obtain ⟨o, q, _⟩ := ob2 b hb
    exact ⟨o, Heap.get?_push_of_some _ q⟩
  refine wpAny_newFunctionEnv S.nocell (fun y hy => absurd hy (by simp)) (fun h1 hn1 hs1 => ?_) S.kind
  obtain ⟨hl, hY0⟩ := h0 pins σ H2 s2 σY I2 hσ
  have k23 : ∀ b o, s2.heap.get? b = some o → (s2.heap.push { cls := .type "list", data := .seq ([] : List Value).toArray }).get? b = some o := fun b o q => Heap.get?_push_of_some _ q
  have k34 : ∀ b o, (s2.heap.push { cls := .type "list", data := .seq ([] : List Value).toArray }).get? b = some o → h1.get? b = some o := fun b o q => (hs1.2 b (Nat.ne_of_lt (Heap.lt_size q))).trans (Heap.get?_push_of_some _ q)
  have I4 := comp_inv (scope := scope) (cl := cl) (NY := NY) (fp := fp) (h1 := h1) (t := s2.toks) (σY := σY) I3 S hfp hob hn1 k34 hl fun i x v e1 e2 => by
    obtain ⟨c, u, k, q, r, o, z1, z2⟩ := hY0 i x v e1 e2
    exact ⟨c, u, k, q, r, o, k23 _ _ z1, z2⟩
  have st4 : tn 0 h1 := T.keep _ _ _ st2 fun b hb o q => k34 _ _ (k23 _ _ q)
  have fr4 : ∀ b ∈ fp, (upd H2 s2.heap.objs.size (.lst [])) b = none := fun b hb => (hfp b hb).1
  obtain ⟨hg, ht, he⟩ := hY { s2 with heap := s2.heap.push { cls := .type "list", data := .seq ([] : List Value).toArray } } (upd H2 s2.heap.objs.size (.lst [])) fp
  have okY := I4.ok
  have statY : ∀ {H' : Hp}, (∀ b ∈ fp, H' b = none) → ∀ b ∈ fp, FpOk (X.comp scope cl NY { s2 with heap := s2.heap.push { cls := .type "list", data := .seq ([] : List Value).toArray } } (upd H2 s2.heap.objs.size (.lst [])) fp) [] H' b :=
    fun hn b hb => ⟨hn b hb, (okY.exf b hb).1, okY.exfs b hb, .inl hb, (okY.exf b hb).2, fun p hp => absurd hp (by simp)⟩
  have loop : codeAny (model X.prog X.w) X.A (.compLoop (.ListComp elt [⟨tg, iter, [tst], 0⟩] scope pos) 0 (.ref it) (.ref s2.heap.objs.size) (compEnvC scope cl (s2.heap.push { cls := .type "list", data := .seq ([] : List Value).toArray }).objs.size X.env))
      (compPost (model X.prog X.w) X.A X.xe use R (.ref s2.heap.objs.size) (s2.heap.push { cls := .type "list", data := .seq ([] : List Value).toArray }).objs.size) { s2 with heap := h1, toks := s2.toks } := by
    refine comp_loopF (fun n s' => ∃ i σ' H', Inv (X.comp scope cl NY { s2 with heap := s2.heap.push { cls := .type "list", data := .seq ([] : List Value).toArray } } (upd H2 s2.heap.objs.size (.lst [])) fp) [] σ' H' s' ∧ tn i s'.heap ∧ (∀ b ∈ fp, H' b = none) ∧ W i n σ' H') ?_ m0 ⟨0, σY, _, I4, st4, fr4, w0⟩
    rintro n s5 ⟨i, σ5, H5, I5, st5, fr5, w5⟩
    rcases turn i n σ5 H5 w5 with ⟨stop, q⟩ | ⟨go, N, hN, step⟩
    · refine thn (T.done (X.comp scope cl NY { s2 with heap := s2.heap.push { cls := .type "list", data := .seq ([] : List Value).toArray } } (upd H2 s2.heap.objs.size (.lst [])) fp) rfl rfl rfl hc i [] s5 σ5 H5 _ I5 (statY fr5) st5 stop) fun r s6 ⟨hr, I6⟩ => ?_
      subst hr
      obtain ⟨m, hm, _⟩ := I6.loc
      refine fin _ _ H5 s6 ⟨⟨m, hm⟩, I6.free, Ne.symm (Nat.ne_of_lt I3.lt), I3.sz, fun x c z => ?_, fun p hp => ?_, fun h' hs' => comp_back I3 hfp I6 hs'⟩ q
      · obtain ⟨_, o, z1, _⟩ := I3.cell x c z
        exact Nat.ne_of_lt (Heap.lt_size z1)
      · exact Nat.ne_of_lt (Heap.lt_size (I3.pin p hp).1)
    · refine thn (T.item (X.comp scope cl NY { s2 with heap := s2.heap.push { cls := .type "list", data := .seq ([] : List Value).toArray } } (upd H2 s2.heap.objs.size (.lst [])) fp) rfl rfl rfl hc i [] s5 σ5 H5 _ I5 (statY fr5) st5 go) fun r s6 ⟨u, hr, h6⟩ => ?_
      subst hr
      refine thn h6 fun _ s7 ⟨x, H7, I7, r7, y7, st7, fr7⟩ => ?_
      have I7' := I7.pinned (statY fr7) (T.obj _ _ st7)
      refine thn (hg _ s7 σ5 H7 x u _ I7' r7 (step x H7 y7)) fun _ s8 ⟨σ8, H8, I8, q8⟩ => ?_
      have pk : ∀ {H' : Hp} {s' : Shared} {σ' : St}, Inv (X.comp scope cl NY { s2 with heap := s2.heap.push { cls := .type "list", data := .seq ([] : List Value).toArray } } (upd H2 s2.heap.objs.size (.lst [])) fp) ([] ++ pinsAt fp s7.heap) σ' H' s' → tn (i + 1) s'.heap ∧ ∀ b ∈ fp, H' b = none := fun I' => by
        refine ⟨T.keep _ _ _ st7 fun b hb o q => (I'.pin (b, o) (List.mem_append_right _ (List.mem_append_right _ (mem_pinsAt hb q)))).1, fun b hb => ?_⟩
        obtain ⟨o, q, d⟩ := T.obj _ _ st7 b hb
        exact (I'.pin (b, o) (List.mem_append_right _ (List.mem_append_right _ (mem_pinsAt hb q)))).2.1
      refine thn (ht _ s8 σ8 H8 _ I8 q8) fun bb s8' ⟨H8', I8', q8'⟩ => ?_
      cases bb with
      | false =>
        have q8' := (show N σ8 H8' by simpa using q8')
        obtain ⟨m', hm, w10⟩ := hN _ _ q8'
        exact ⟨m', hm, i + 1, σ8, _, I8'.unpinned, (pk I8').1, (pk I8').2, w10⟩
      | true =>
        have q8' := (show te σ8 H8' _ by simpa using q8')
        refine thn (he _ s8' σ8 H8' _ I8' q8') fun z s9 ⟨v9, H9, I9, r9, xs, hx9, hz9, n9⟩ => ?_
        refine thn (mt_append _ s9 σ8 H9 (.ref s2.heap.objs.size) [v9] (.ref s2.heap.objs.size) [z] (fun _ H' => H' = upd H9 s2.heap.objs.size (.lst (xs ++ [v9]))) I9 rfl (.cons r9 .nil) ⟨s2.heap.objs.size, xs, v9, rfl, rfl, hx9, hz9, rfl⟩) fun y s10 ⟨v10, H10, I10, _, e10⟩ => ?_
        subst e10
        obtain ⟨m', hm, w10⟩ := hN _ _ n9
        exact ⟨m', hm, i + 1, σ8, _, I10.unpinned, (pk I10).1, (pk I10).2, w10⟩
  exact codeAny_compStart_list loop (T.self _ 0 _ _ _ st4 loop)
theorem ps_compF0 {iter elt tst : Expr} {scope : Scope} {pos pos' spos : Pos} {cl : List (Str × Addr)} {NY : List Str} {wi : TI} {g : TG} {tt : TT} {te : TE} {σ0 : St → Hp → St → Prop} {i : Nat} {y : Str} (hc : X.calm = true) (S : ∀ {pins σ H s}, Inv X pins σ H s → Sees X scope cl) (hi : PI X tg iter wi)
    (hY : ∀ (s3 : Shared) (H3 : Hp) (fp : List Addr), PG (X.comp scope cl NY s3 H3 fp) tg g ∧ PT (X.comp scope cl NY s3 H3 fp) tst tt ∧ PE (X.comp scope cl NY s3 H3 fp) elt te)
    (h0 : ∀ (pins : List (Addr × Obj)) (σ : St) (H : Hp) (s3 : Shared) (σY : St), Inv X pins σ H s3 → σ0 σ H σY → σY.length = NY.length ∧ ∀ (i : Nat) (x : Str) (v : V), NY[i]? = some x → σY[i]? = some (some v) →
      ∃ c u, (((compEnvC scope cl 0 X.env).kindOf x = some .cell ∨ (compEnvC scope cl 0 X.env).kindOf x = some .free)) ∧ cl.lookup x = some c ∧ RelV v u ∧ s3.heap.IsCell c (some u))
    (hs : ∀ x, foldedSetIterable iter X.env x = pure x) (hN : X.N.Nodup) (hi' : X.N[i]? = some y) (hx : Loc X.env.scope y) (hf : X.fn y = true ∨ X.env.scope.names.lookup y = some .local)
    (hw : swapsWith (.ListComp elt [⟨tg, iter, [tst], 0⟩] scope pos) (some (.Name y pos')) spos.line X.env = pure true) : PS X (.Assign [.Name y pos'] (.ListComp elt [⟨tg, iter, [tst], 0⟩] scope pos) spos) (tAsg (tCompF wi g tt te σ0) (gName i)) := by
  intro pins s σ H D I h
  rw [exec_Assign_Name_used _ _ _ _ hw, arm_evalThenUse_ListComp]
  refine wpAny_bind (wpAny_standAt (wpAny_bind (wpAny_bind (wpAny_mono (comp_coreF (use := some (assign (.Name y pos') X.env)) (R := fun _ s' => SP X pins D .next s') hc (S I) hi hY h0 hs I h fun C L H5 s6 e q => ?_) (fun _ s' z => wpAny_pure (wpAny_pure z)) fun _ _ z => z))))
  obtain ⟨m, hm⟩ := e.ns
  have I6 : Inv X pins σ H5 s6 := e.inv s6.heap ⟨rfl, fun _ _ => rfl⟩
  refine wpAny_assign_Name (store_ok2 I6 hN hi' hx (v := .ref L) rfl (fun s' I' ⟨a, sb, ha⟩ => ?_) hf)
  have ne : C ≠ a := by
    rintro rfl
    rcases ha with z | z
    · exact e.hL z
    · exact e.h2 _ _ z rfl
  refine ⟨m, ?_, fun h' hs' => ?_⟩
  · obtain ⟨o, es, ep, z, r⟩ := hm
    exact ⟨o, es, ep, (sb.2 _ ne).trans z, r⟩
  · exact ⟨_, H5, I'.turned (t' := s'.toks) (it := C) (fun b o nb z => (hs'.2 b nb).trans z) e.hn e.hL (.inr e.h1) e.h2 e.h3, q⟩
end
abbrev tCompFC (wi : TI) (g : TG) (tt : TT) (te : TE) (cap : List (Option Nat)) : TE := tCompF wi g tt te fun σ _ σY => σY = capt cap σ
section
variable {X : Cx} {tg : Expr}
theorem ps_compF {iter elt tst : Expr} {scope : Scope} {pos pos' spos : Pos} {wi : TI} {g : TG} {tt : TT} {te : TE} {i : Nat} {y : Str} (NY : List Str) (cap : List (Option Nat)) (hc : X.calm = true) (hk : seesOk X scope = true) (hcap : capOk X scope NY cap = true) (hi : PI X tg iter wi)
    (hY : ∀ (s3 : Shared) (H3 : Hp) (fp : List Addr), PG (X.comp scope (clOf X.env scope) NY s3 H3 fp) tg g ∧ PT (X.comp scope (clOf X.env scope) NY s3 H3 fp) tst tt ∧ PE (X.comp scope (clOf X.env scope) NY s3 H3 fp) elt te) (hN : X.N.Nodup) (hi' : X.N[i]? = some y) (hx : Loc X.env.scope y)
    (hf : X.fn y = true ∨ X.env.scope.names.lookup y = some .local := by first | exact .inl rfl | exact .inr rfl) (hw : swapsWith (.ListComp elt [⟨tg, iter, [tst], 0⟩] scope pos) (some (.Name y pos')) spos.line X.env = pure true := by rfl)
    (hs : ∀ x, foldedSetIterable iter X.env x = pure x := by intro _; rfl) : PS X (.Assign [.Name y pos'] (.ListComp elt [⟨tg, iter, [tst], 0⟩] scope pos) spos) (tAsg (tCompFC wi g tt te cap) (gName i)) := by
  refine ps_compF0 (NY := NY) hc (fun I => sees_of I.ok hk) hi hY (fun pins σ H s3 σY I3 e => ?_) hs hN hi' hx hf hw
  subst e
  exact capt_ok I3 (sees_of I3.ok hk) hcap
end
theorem compF_list {K : PySem.W.Frag} {a D : Addr} {xs : List V} {g : TG} {tt : TT} {te : TE} {σY : St} {H1 : Hp} {Q : VK} (Pv : Nat → St → Hp → Prop) (h0 : Pv 0 σY H1) (hl : ∀ i σ H, i ≤ xs.length → Pv i σ H → SqL K H a xs)
    (hs : ∀ i x σ H, xs[i]? = some x → Pv i σ H → g x σ H fun σ3 H3 => tt σ3 H3 fun b H4 => if b = true then te σ3 H4 fun v H5 => ∃ ys, H5 D = some (.lst ys) ∧ ys.length < sizeLine ∧ Pv (i + 1) σ3 (upd H5 D (.lst (ys ++ [v]))) else Pv (i + 1) σ3 H4) (hd : ∀ σ H, Pv xs.length σ H → Q (.ref D) H) :
    CompWF (Itl K a) g tt te σY H1 D Q := by
  refine ⟨fun i m σ H => m = xs.length - i ∧ i ≤ xs.length ∧ Pv i σ H, ⟨xs.length, by simp, Nat.zero_le _, h0⟩, ?_⟩
  rintro i m σ H ⟨rfl, hi, p⟩
  have q := hl i σ H hi p
  by_cases hlt : i < xs.length
  · refine .inr ⟨⟨xs, xs[i], q, by simp [hlt]⟩, Pv (i + 1), fun σ' H' p' => ⟨xs.length - (i + 1), by omega, rfl, hlt, p'⟩, fun x H' y => ?_⟩
    obtain ⟨e, y⟩ := y
    subst e
    exact hs i x σ _ (y xs q) p
  · have e : i = xs.length := by omega
    subst e
    exact .inl ⟨⟨xs, q, Nat.le_refl _⟩, hd σ H p⟩
theorem compF_range {lo : Int} {n : Nat} {D : Addr} {g : TG} {tt : TT} {te : TE} {σY : St} {H1 : Hp} {Q : VK} (Pv : Nat → St → Hp → Prop) (h0 : Pv 0 σY H1)
    (hs : ∀ i σ H, i < n → Pv i σ H → g (.int (lo + i)) σ H fun σ3 H3 => tt σ3 H3 fun b H4 => if b = true then te σ3 H4 fun v H5 => ∃ ys, H5 D = some (.lst ys) ∧ ys.length < sizeLine ∧ Pv (i + 1) σ3 (upd H5 D (.lst (ys ++ [v]))) else Pv (i + 1) σ3 H4) (hd : ∀ σ H, Pv n σ H → Q (.ref D) H) :
    CompWF (Itr lo n) g tt te σY H1 D Q := by
  refine ⟨fun i m σ H => m = n - i ∧ i ≤ n ∧ Pv i σ H, ⟨n, by simp, Nat.zero_le _, h0⟩, ?_⟩
  rintro i m σ H ⟨rfl, hi, p⟩
  by_cases hlt : i < n
  · refine .inr ⟨hlt, Pv (i + 1), fun σ' H' p' => ⟨n - (i + 1), by omega, rfl, hlt, p'⟩, fun x H' y => ?_⟩
    obtain ⟨e, y⟩ := y
    subst e y
    exact hs i σ _ hlt p
  · have e : i = n := by omega
    subst e
    exact .inl ⟨Nat.le_refl _, hd σ H p⟩
end L2
namespace L2
open PySem PySem.Spec PyProof.Rows
def but (H : Hp) (ls : List Addr) : Hp := fun b => if b ∈ ls then none else H b
theorem but_none {H : Hp} {ls : List Addr} {b : Addr} (h : b ∈ ls) : but H ls b = none := by unfold but; rw [if_pos h]
theorem but_of {H : Hp} {ls : List Addr} {b : Addr} {o : HO} (h : H b = some o) (n : b ∉ ls) : but H ls b = some o := by unfold but; rw [if_neg n]; exact h
theorem but_sub {H : Hp} {ls : List Addr} : Same (but H ls) H := fun b o z => by
  unfold but at z
  split at z
  · cases z
  · exact z
namespace Hd
variable {B B' : Hp} {L : List (Addr × HO)} {H H' : Hp} {a : Addr} {o : HO}
theorem but1 (h : H a = some o) : Hd (but H [a]) [(a, o)] H := ⟨by simp, fun p m => by rw [List.mem_singleton.mp m]; exact but_none (by simp), fun p m => by rw [List.mem_singleton.mp m]; exact h, but_sub⟩
theorem into (h : Hd B [(a, o)] H) : Same B (but H [a]) := fun b u z => but_of (h.sm _ _ z) (by
  intro q
  have q := List.mem_singleton.mp q
  subst q
  rw [h.nw _ (List.mem_singleton.mpr rfl)] at z
  cases z)
end Hd
end L2
namespace K20
open PySem L2 FM
def top (i : Nat) : Stmt := PySem.Challenge.pw_rowbreadth_k20_uneven_and_crossed.main.body.getD i (.Pass ⟨0, 0, 0, 0⟩)
abbrev s__wall : Stmt := top 0
abbrev s_parts_of : Stmt := top 20
theorem sc_parts_of : FnScope ["form"] ["form"] (defScope s_parts_of) := ⟨rfl, rfl, rfl, by decide +kernel, rfl, by decide +kernel, by decide +kernel⟩
abbrev s_forms_within : Stmt := top 21
theorem sc_forms_within : FnScope ["form", "found", "at"] ["form"] (defScope s_forms_within) := ⟨rfl, rfl, rfl, by decide +kernel, rfl, by decide +kernel, by decide +kernel⟩
abbrev s_forms_of : Stmt := top 22
theorem sc_forms_of : FnScope ["step", "forms"] ["step"] (defScope s_forms_of) := ⟨rfl, rfl, rfl, by decide +kernel, rfl, by decide +kernel, by decide +kernel⟩
abbrev s_is_uneven_form : Stmt := top 23
theorem sc_is_uneven_form : FnScope ["form", "lengths", "many", "part"] ["form", "lengths", "many"] (defScope s_is_uneven_form) := ⟨rfl, rfl, rfl, by decide +kernel, rfl, by decide +kernel, by decide +kernel⟩
abbrev s_uneven : Stmt := top 24
theorem sc_uneven : FnScope ["step", "lengths", "many", "form"] ["step", "lengths"] (defScope s_uneven) := ⟨rfl, rfl, rfl, by decide +kernel, rfl, by decide +kernel, by decide +kernel⟩
abbrev s_may_cross : Stmt := top 25
theorem sc_may_cross : FnScope ["step", "part"] ["step", "part"] (defScope s_may_cross) := ⟨rfl, rfl, rfl, by decide +kernel, rfl, by decide +kernel, by decide +kernel⟩
abbrev s_is_crossed_form : Stmt := top 26
theorem sc_is_crossed_form : FnScope ["step", "form", "part"] ["step", "form"] (defScope s_is_crossed_form) := ⟨rfl, rfl, rfl, by decide +kernel, rfl, by decide +kernel, by decide +kernel⟩
abbrev s_crossed : Stmt := top 27
theorem sc_crossed : FnScope ["step", "form"] ["step"] (defScope s_crossed) := ⟨rfl, rfl, rfl, by decide +kernel, rfl, by decide +kernel, by decide +kernel⟩
abbrev s_l_mixed : Stmt := top 29
theorem sc_l_mixed : FnScope ["_law_cell", "_law_k", "_law_mixed_here"] ["_law_cell", "_law_k"] (defScope s_l_mixed) := ⟨rfl, rfl, rfl, by decide +kernel, rfl, by decide +kernel, by decide +kernel⟩
abbrev s_l_cell_at : Stmt := top 30
theorem sc_l_cell_at : FnScope ["_law_script", "_law_k"] ["_law_script", "_law_k"] (defScope s_l_cell_at) := ⟨rfl, rfl, rfl, by decide +kernel, rfl, by decide +kernel, by decide +kernel⟩
abbrev s_l_lengths_by : Stmt := top 31
theorem sc_l_lengths_by : FnScope ["_law_script", "_law_told", "_law_lengths", "_law_k", "_law_mixed_here"] ["_law_script"] (defScope s_l_lengths_by) := ⟨rfl, rfl, rfl, by decide +kernel, rfl, by decide +kernel, by decide +kernel⟩
abbrev s_l_row_by : Stmt := top 32
theorem sc_l_row_by : FnScope ["_law_cell", "_law_lengths", "_law_target", "_law_fit", "_law_every", "_law_k", "_law_good"] ["_law_cell", "_law_lengths", "_law_target", "_law_fit"] (defScope s_l_row_by) := ⟨rfl, rfl, rfl, by decide +kernel, rfl, by decide +kernel, by decide +kernel⟩
abbrev s_l_leaf_by : Stmt := top 33
theorem sc_l_leaf_by : FnScope ["_law_cell", "_law_lengths", "_law_target", "_law_fit", "_law_how", "_law_rest", "_law_row"] ["_law_cell", "_law_lengths", "_law_target", "_law_fit"] (defScope s_l_leaf_by) := ⟨rfl, rfl, rfl, by decide +kernel, rfl, by decide +kernel, by decide +kernel⟩
abbrev s_l_pushed : Stmt := top 34
theorem sc_l_pushed : FnScope ["_law_cell", "_law_pile", "_law_lengths", "_law_target", "_law_fit", "_law_how", "_law_rest", "_law_row", "_law_top", "_law_left", "_law_right", "_law_test", "_law_form"] ["_law_cell", "_law_pile", "_law_lengths", "_law_target", "_law_fit"] (defScope s_l_pushed) := ⟨rfl, rfl, rfl, by decide +kernel, rfl, by decide +kernel, by decide +kernel⟩
abbrev s_l_step_by : Stmt := top 35
theorem sc_l_step_by : FnScope ["_law_kind", "_law_target", "_law_many", "_law_found", "_law_tested", "_law_test"] ["_law_kind", "_law_target", "_law_many", "_law_found", "_law_tested"] (defScope s_l_step_by) := ⟨rfl, rfl, rfl, by decide +kernel, rfl, by decide +kernel, by decide +kernel⟩
abbrev s_l_due : Stmt := top 36
theorem sc_l_due : FnScope ["_law_kind", "_law_target", "_law_many", "_law_lengths", "_law_named", "_law_uneven_due", "_law_crossed_due", "_law_way", "_law_row"] ["_law_kind", "_law_target", "_law_many", "_law_lengths", "_law_named"] (defScope s_l_due) := ⟨rfl, rfl, rfl, by decide +kernel, rfl, by decide +kernel, by decide +kernel⟩
abbrev s_l_asked : Stmt := top 37
theorem sc_l_asked : FnScope ["_law_step", "_law_lengths", "_law_due_here", "_law_first", "_law_handed", "_law_told"] ["_law_step", "_law_lengths", "_law_due_here", "_law_first"] (defScope s_l_asked) := ⟨rfl, rfl, rfl, by decide +kernel, rfl, by decide +kernel, by decide +kernel⟩
abbrev s_l_one : Stmt := top 38
theorem sc_l_one : FnScope ["_law_row", "_law_lengths", "_law_kind", "_law_target", "_law_ones", "_law_k", "_law_many", "_law_pile", "_law_cell", "_law_found", "_law_tested", "_law_named", "_law_step", "_law_due_here", "_law_around"] ["_law_row", "_law_lengths"] (defScope s_l_one) := ⟨rfl, rfl, rfl, by decide +kernel, rfl, by decide +kernel, by decide +kernel⟩
abbrev s_law : Stmt := top 39
theorem sc_law : FnScope ["_law_script", "_law_lengths", "_law_at", "_law_row"] ["_law_script"] (defScope s_law) := ⟨rfl, rfl, rfl, by decide +kernel, rfl, by decide +kernel, by decide +kernel⟩
abbrev s_Number_init : Stmt := inClass (top 3) 0
theorem sc_Number_init : FnScope ["self", "number"] ["self", "number"] (defScope s_Number_init) := ⟨rfl, rfl, rfl, by decide +kernel, rfl, by decide +kernel, by decide +kernel⟩
abbrev s_Number_worth : Stmt := inClass (top 3) 1
abbrev s_Here_worth : Stmt := inClass (top 4) 0
abbrev s_Cell_init : Stmt := inClass (top 5) 0
theorem sc_Cell_init : FnScope ["self", "row"] ["self", "row"] (defScope s_Cell_init) := ⟨rfl, rfl, rfl, by decide +kernel, rfl, by decide +kernel, by decide +kernel⟩
abbrev s_Cell_worth : Stmt := inClass (top 5) 1
abbrev s_Shifted_init : Stmt := inClass (top 6) 0
theorem sc_Shifted_init : FnScope ["self", "row", "by", "other"] ["self", "row", "by", "other"] (defScope s_Shifted_init) := ⟨rfl, rfl, rfl, by decide +kernel, rfl, by decide +kernel, by decide +kernel⟩
abbrev s_Shifted_worth : Stmt := inClass (top 6) 1
abbrev s_Local_init : Stmt := inClass (top 7) 0
theorem sc_Local_init : FnScope ["self", "at"] ["self", "at"] (defScope s_Local_init) := ⟨rfl, rfl, rfl, by decide +kernel, rfl, by decide +kernel, by decide +kernel⟩
abbrev s_Local_worth : Stmt := inClass (top 7) 1
abbrev s_At_init : Stmt := inClass (top 8) 0
theorem sc_At_init : FnScope ["self", "row", "place"] ["self", "row", "place"] (defScope s_At_init) := ⟨rfl, rfl, rfl, by decide +kernel, rfl, by decide +kernel, by decide +kernel⟩
abbrev s_At_worth : Stmt := inClass (top 8) 1
abbrev s_Pair_init : Stmt := inClass (top 9) 0
theorem sc_Pair_init : FnScope ["self", "sign", "left", "right"] ["self", "sign", "left", "right"] (defScope s_Pair_init) := ⟨rfl, rfl, rfl, by decide +kernel, rfl, by decide +kernel, by decide +kernel⟩
abbrev s_Pair_worth : Stmt := inClass (top 9) 1
abbrev s_Choice_init : Stmt := inClass (top 10) 0
theorem sc_Choice_init : FnScope ["self", "test", "left", "right"] ["self", "test", "left", "right"] (defScope s_Choice_init) := ⟨rfl, rfl, rfl, by decide +kernel, rfl, by decide +kernel, by decide +kernel⟩
abbrev s_Choice_worth : Stmt := inClass (top 10) 1
abbrev s_Call_init : Stmt := inClass (top 11) 0
theorem sc_Call_init : FnScope ["self", "at", "handed"] ["self", "at", "handed"] (defScope s_Call_init) := ⟨rfl, rfl, rfl, by decide +kernel, rfl, by decide +kernel, by decide +kernel⟩
abbrev s_Call_worth : Stmt := inClass (top 11) 1
abbrev s_Let_init : Stmt := inClass (top 14) 0
theorem sc_Let_init : FnScope ["self", "target", "value", "test"] ["self", "target", "value", "test"] (defScope s_Let_init) := ⟨rfl, rfl, rfl, by decide +kernel, rfl, by decide +kernel, by decide +kernel⟩
abbrev s_Let_many_of : Stmt := inClass (top 14) 1
theorem sc_Let_many_of : FnScope ["self", "lengths"] ["self", "lengths"] (defScope s_Let_many_of) := ⟨rfl, rfl, rfl, by decide +kernel, rfl, by decide +kernel, by decide +kernel⟩
abbrev s_Put_init : Stmt := inClass (top 15) 0
theorem sc_Put_init : FnScope ["self", "target", "value", "place", "many", "test"] ["self", "target", "value", "place", "many", "test"] (defScope s_Put_init) := ⟨rfl, rfl, rfl, by decide +kernel, rfl, by decide +kernel, by decide +kernel⟩
abbrev s_Put_many_of : Stmt := inClass (top 15) 1
theorem sc_Put_many_of : FnScope ["self", "lengths"] ["self", "lengths"] (defScope s_Put_many_of) := ⟨rfl, rfl, rfl, by decide +kernel, rfl, by decide +kernel, by decide +kernel⟩
abbrev s_Fold_init : Stmt := inClass (top 16) 0
theorem sc_Fold_init : FnScope ["self", "target", "fold", "value", "many", "test"] ["self", "target", "fold", "value", "many", "test"] (defScope s_Fold_init) := ⟨rfl, rfl, rfl, by decide +kernel, rfl, by decide +kernel, by decide +kernel⟩
abbrev s_Fold_many_of : Stmt := inClass (top 16) 1
theorem sc_Fold_many_of : FnScope ["self", "lengths"] ["self", "lengths"] (defScope s_Fold_many_of) := ⟨rfl, rfl, rfl, by decide +kernel, rfl, by decide +kernel, by decide +kernel⟩
abbrev s_Running_init : Stmt := inClass (top 17) 0
theorem sc_Running_init : FnScope ["self", "target", "fold", "value", "test"] ["self", "target", "fold", "value", "test"] (defScope s_Running_init) := ⟨rfl, rfl, rfl, by decide +kernel, rfl, by decide +kernel, by decide +kernel⟩
abbrev s_Running_many_of : Stmt := inClass (top 17) 1
theorem sc_Running_many_of : FnScope ["self", "lengths"] ["self", "lengths"] (defScope s_Running_many_of) := ⟨rfl, rfl, rfl, by decide +kernel, rfl, by decide +kernel, by decide +kernel⟩
abbrev s_Till_init : Stmt := inClass (top 18) 0
theorem sc_Till_init : FnScope ["self", "target", "most", "steps"] ["self", "target", "most", "steps"] (defScope s_Till_init) := ⟨rfl, rfl, rfl, by decide +kernel, rfl, by decide +kernel, by decide +kernel⟩
section
variable {P : Program} {w : World} {K : PySem.W.Frag} {mg : Str → Option Value} {base : Heap}
theorem made_same {H H' : Hp} {x dx : Addr} {o1 o2 : HO} (nx : H x = none) (ndx : H dx = none) (k : ∀ b o, b ≠ x → upd (upd H dx o1) x o2 b = some o → H' b = some o) : Same H H' := fun c o z => k c o (ne_of_none z nx) (by rw [upd_ne (ne_of_none z nx), upd_ne (ne_of_none z ndx)]; exact z)
def spI_Number (C : Addr) : Sp := fun vs H Q _ => ∃ (x dx : Addr) (u0 : V), vs = [.ref x, u0] ∧ H x = some (.ins C dx []) ∧ ∀ H', (∀ b o, b ≠ x → H b = some o → H' b = some o) → H' x = some (.ins C dx [("number", u0)]) → Q .non H'
theorem okI_Number {C : Addr} (d : InitIn K C "Number.__init__" s_Number_init ["self", "number"]) (cl : Cls K C) (n0 : NoAttr K C "number") : OkI P w K mg base (CXe P w base) 1 C ["self", "number"] (spI_Number C) := by
  obtain ⟨f, fd, m, F, bd⟩ := d
  refine ⟨f, fd, m, bd, F.okE sc_Number_init (fun vs H Q E ⟨_, _, _, e, _⟩ => by rw [e]; rfl) fun cdv A outer s H vs Q E hr h => ?_⟩
  obtain ⟨x, dx, u0, rfl, hx, k⟩ := h
  refine ⟨_, (pss_one (ps_fld (pv 0) (pv 1) rfl)), ?_⟩
  refine ⟨_, rfl, _, rfl, x, C, dx, [], rfl, hx, cl, n0, (by show 0 < 1000; decide), ?_⟩
  exact k _ (fun b o nb z => by
    rw [upd_ne nb]
    exact z) upd_same
def spI_Cell (C : Addr) : Sp := fun vs H Q _ => ∃ (x dx : Addr) (u0 : V), vs = [.ref x, u0] ∧ H x = some (.ins C dx []) ∧ ∀ H', (∀ b o, b ≠ x → H b = some o → H' b = some o) → H' x = some (.ins C dx [("row", u0)]) → Q .non H'
theorem okI_Cell {C : Addr} (d : InitIn K C "Cell.__init__" s_Cell_init ["self", "row"]) (cl : Cls K C) (n0 : NoAttr K C "row") : OkI P w K mg base (CXe P w base) 1 C ["self", "row"] (spI_Cell C) := by
  obtain ⟨f, fd, m, F, bd⟩ := d
  refine ⟨f, fd, m, bd, F.okE sc_Cell_init (fun vs H Q E ⟨_, _, _, e, _⟩ => by rw [e]; rfl) fun cdv A outer s H vs Q E hr h => ?_⟩
  obtain ⟨x, dx, u0, rfl, hx, k⟩ := h
  refine ⟨_, (pss_one (ps_fld (pv 0) (pv 1) rfl)), ?_⟩
  refine ⟨_, rfl, _, rfl, x, C, dx, [], rfl, hx, cl, n0, (by show 0 < 1000; decide), ?_⟩
  exact k _ (fun b o nb z => by
    rw [upd_ne nb]
    exact z) upd_same
def spI_Shifted (C : Addr) : Sp := fun vs H Q _ => ∃ (x dx : Addr) (u0 u1 u2 : V), vs = [.ref x, u0, u1, u2] ∧ H x = some (.ins C dx []) ∧ ∀ H', (∀ b o, b ≠ x → H b = some o → H' b = some o) → H' x = some (.ins C dx [("row", u0), ("by", u1), ("other", u2)]) → Q .non H'
theorem okI_Shifted {C : Addr} (d : InitIn K C "Shifted.__init__" s_Shifted_init ["self", "row", "by", "other"]) (cl : Cls K C) (n0 : NoAttr K C "row") (n1 : NoAttr K C "by") (n2 : NoAttr K C "other") : OkI P w K mg base (CXe P w base) 1 C ["self", "row", "by", "other"] (spI_Shifted C) := by
  obtain ⟨f, fd, m, F, bd⟩ := d
  refine ⟨f, fd, m, bd, F.okE sc_Shifted_init (fun vs H Q E ⟨_, _, _, _, _, e, _⟩ => by rw [e]; rfl) fun cdv A outer s H vs Q E hr h => ?_⟩
  obtain ⟨x, dx, u0, u1, u2, rfl, hx, k⟩ := h
  refine ⟨_, (pss_cons (ps_fld (pv 0) (pv 1) rfl) (pss_cons (ps_fld (pv 0) (pv 2) rfl) (pss_one (ps_fld (pv 0) (pv 3) rfl)))), ?_⟩
  refine ⟨_, rfl, _, rfl, x, C, dx, [], rfl, hx, cl, n0, (by show 0 < 1000; decide), ?_⟩
  refine ⟨_, rfl, _, rfl, x, C, dx, [("row", u0)], rfl, upd_same, cl, n1, (by show 1 < 1000; decide), ?_⟩
  refine ⟨_, rfl, _, rfl, x, C, dx, [("row", u0), ("by", u1)], rfl, upd_same, cl, n2, (by show 2 < 1000; decide), ?_⟩
  exact k _ (fun b o nb z => by
    rw [upd_ne nb, upd_ne nb, upd_ne nb]
    exact z) upd_same
def spI_Local (C : Addr) : Sp := fun vs H Q _ => ∃ (x dx : Addr) (u0 : V), vs = [.ref x, u0] ∧ H x = some (.ins C dx []) ∧ ∀ H', (∀ b o, b ≠ x → H b = some o → H' b = some o) → H' x = some (.ins C dx [("at", u0)]) → Q .non H'
theorem okI_Local {C : Addr} (d : InitIn K C "Local.__init__" s_Local_init ["self", "at"]) (cl : Cls K C) (n0 : NoAttr K C "at") : OkI P w K mg base (CXe P w base) 1 C ["self", "at"] (spI_Local C) := by
  obtain ⟨f, fd, m, F, bd⟩ := d
  refine ⟨f, fd, m, bd, F.okE sc_Local_init (fun vs H Q E ⟨_, _, _, e, _⟩ => by rw [e]; rfl) fun cdv A outer s H vs Q E hr h => ?_⟩
  obtain ⟨x, dx, u0, rfl, hx, k⟩ := h
  refine ⟨_, (pss_one (ps_fld (pv 0) (pv 1) rfl)), ?_⟩
  refine ⟨_, rfl, _, rfl, x, C, dx, [], rfl, hx, cl, n0, (by show 0 < 1000; decide), ?_⟩
  exact k _ (fun b o nb z => by
    rw [upd_ne nb]
    exact z) upd_same
def spI_At (C : Addr) : Sp := fun vs H Q _ => ∃ (x dx : Addr) (u0 u1 : V), vs = [.ref x, u0, u1] ∧ H x = some (.ins C dx []) ∧ ∀ H', (∀ b o, b ≠ x → H b = some o → H' b = some o) → H' x = some (.ins C dx [("row", u0), ("place", u1)]) → Q .non H'
theorem okI_At {C : Addr} (d : InitIn K C "At.__init__" s_At_init ["self", "row", "place"]) (cl : Cls K C) (n0 : NoAttr K C "row") (n1 : NoAttr K C "place") : OkI P w K mg base (CXe P w base) 1 C ["self", "row", "place"] (spI_At C) := by
  obtain ⟨f, fd, m, F, bd⟩ := d
  refine ⟨f, fd, m, bd, F.okE sc_At_init (fun vs H Q E ⟨_, _, _, _, e, _⟩ => by rw [e]; rfl) fun cdv A outer s H vs Q E hr h => ?_⟩
  obtain ⟨x, dx, u0, u1, rfl, hx, k⟩ := h
  refine ⟨_, (pss_cons (ps_fld (pv 0) (pv 1) rfl) (pss_one (ps_fld (pv 0) (pv 2) rfl))), ?_⟩
  refine ⟨_, rfl, _, rfl, x, C, dx, [], rfl, hx, cl, n0, (by show 0 < 1000; decide), ?_⟩
  refine ⟨_, rfl, _, rfl, x, C, dx, [("row", u0)], rfl, upd_same, cl, n1, (by show 1 < 1000; decide), ?_⟩
  exact k _ (fun b o nb z => by
    rw [upd_ne nb, upd_ne nb]
    exact z) upd_same
def spI_Pair (C : Addr) : Sp := fun vs H Q _ => ∃ (x dx : Addr) (u0 u1 u2 : V), vs = [.ref x, u0, u1, u2] ∧ H x = some (.ins C dx []) ∧ ∀ H', (∀ b o, b ≠ x → H b = some o → H' b = some o) → H' x = some (.ins C dx [("sign", u0), ("left", u1), ("right", u2)]) → Q .non H'
theorem okI_Pair {C : Addr} (d : InitIn K C "Pair.__init__" s_Pair_init ["self", "sign", "left", "right"]) (cl : Cls K C) (n0 : NoAttr K C "sign") (n1 : NoAttr K C "left") (n2 : NoAttr K C "right") : OkI P w K mg base (CXe P w base) 1 C ["self", "sign", "left", "right"] (spI_Pair C) := by
  obtain ⟨f, fd, m, F, bd⟩ := d
  refine ⟨f, fd, m, bd, F.okE sc_Pair_init (fun vs H Q E ⟨_, _, _, _, _, e, _⟩ => by rw [e]; rfl) fun cdv A outer s H vs Q E hr h => ?_⟩
  obtain ⟨x, dx, u0, u1, u2, rfl, hx, k⟩ := h
  refine ⟨_, (pss_cons (ps_fld (pv 0) (pv 1) rfl) (pss_cons (ps_fld (pv 0) (pv 2) rfl) (pss_one (ps_fld (pv 0) (pv 3) rfl)))), ?_⟩
  refine ⟨_, rfl, _, rfl, x, C, dx, [], rfl, hx, cl, n0, (by show 0 < 1000; decide), ?_⟩
  refine ⟨_, rfl, _, rfl, x, C, dx, [("sign", u0)], rfl, upd_same, cl, n1, (by show 1 < 1000; decide), ?_⟩
  refine ⟨_, rfl, _, rfl, x, C, dx, [("sign", u0), ("left", u1)], rfl, upd_same, cl, n2, (by show 2 < 1000; decide), ?_⟩
  exact k _ (fun b o nb z => by
    rw [upd_ne nb, upd_ne nb, upd_ne nb]
    exact z) upd_same
def spI_Choice (C : Addr) : Sp := fun vs H Q _ => ∃ (x dx : Addr) (u0 u1 u2 : V), vs = [.ref x, u0, u1, u2] ∧ H x = some (.ins C dx []) ∧ ∀ H', (∀ b o, b ≠ x → H b = some o → H' b = some o) → H' x = some (.ins C dx [("test", u0), ("left", u1), ("right", u2)]) → Q .non H'
theorem okI_Choice {C : Addr} (d : InitIn K C "Choice.__init__" s_Choice_init ["self", "test", "left", "right"]) (cl : Cls K C) (n0 : NoAttr K C "test") (n1 : NoAttr K C "left") (n2 : NoAttr K C "right") : OkI P w K mg base (CXe P w base) 1 C ["self", "test", "left", "right"] (spI_Choice C) := by
  obtain ⟨f, fd, m, F, bd⟩ := d
  refine ⟨f, fd, m, bd, F.okE sc_Choice_init (fun vs H Q E ⟨_, _, _, _, _, e, _⟩ => by rw [e]; rfl) fun cdv A outer s H vs Q E hr h => ?_⟩
  obtain ⟨x, dx, u0, u1, u2, rfl, hx, k⟩ := h
  refine ⟨_, (pss_cons (ps_fld (pv 0) (pv 1) rfl) (pss_cons (ps_fld (pv 0) (pv 2) rfl) (pss_one (ps_fld (pv 0) (pv 3) rfl)))), ?_⟩
  refine ⟨_, rfl, _, rfl, x, C, dx, [], rfl, hx, cl, n0, (by show 0 < 1000; decide), ?_⟩
  refine ⟨_, rfl, _, rfl, x, C, dx, [("test", u0)], rfl, upd_same, cl, n1, (by show 1 < 1000; decide), ?_⟩
  refine ⟨_, rfl, _, rfl, x, C, dx, [("test", u0), ("left", u1)], rfl, upd_same, cl, n2, (by show 2 < 1000; decide), ?_⟩
  exact k _ (fun b o nb z => by
    rw [upd_ne nb, upd_ne nb, upd_ne nb]
    exact z) upd_same
end
end K20
namespace F2
open PySem L2
def Fms.toL : Fms → List Fm
  | .nil => []
  | .cons f r => f :: r.toL
def partsF : Fm → List Fm
  | .at' _ p => [p]
  | .pair _ l r => [l, r]
  | .cho t l r => [t, l, r]
  | .call _ gs => gs.toL
  | _ => []
mutual
def nodes : Fm → Nat
  | .at' _ p => nodes p + 1
  | .pair _ l r => nodes l + nodes r + 1
  | .cho t l r => nodes t + nodes l + nodes r + 1
  | .call _ gs => nodesL gs + 1
  | _ => 1
def nodesL : Fms → Nat
  | .nil => 0
  | .cons f r => nodes f + nodesL r
end
theorem nodesL_eq : ∀ gs : Fms, nodesL gs = (gs.toL.map nodes).sum
  | .nil => by unfold nodesL; rfl
  | .cons f r => by
    unfold nodesL
    rw [nodesL_eq r]
    rfl
theorem nodes_eq (F : Fm) : nodes F = ((partsF F).map nodes).sum + 1 := by
  cases F with
  | num n => unfold nodes; rfl
  | here => unfold nodes; rfl
  | cell r => unfold nodes; rfl
  | shi r b o => unfold nodes; rfl
  | loc a => unfold nodes; rfl
  | at' r p => conv => lhs; unfold nodes
               show _ = nodes p + 0 + 1; omega
  | pair s l r => conv => lhs; unfold nodes
                  show _ = nodes l + (nodes r + 0) + 1; omega
  | cho t l r => conv => lhs; unfold nodes
                 show _ = nodes t + (nodes l + (nodes r + 0)) + 1; omega
  | call a gs => conv => lhs; unfold nodes
                 rw [nodesL_eq]; rfl
def clsOf (c : Cs) : Fm → Addr
  | .num _ => c.num
  | .here => c.here
  | .cell _ => c.cell
  | .shi _ _ _ => c.shi
  | .loc _ => c.loc
  | .at' _ _ => c.at'
  | .pair _ _ _ => c.pair
  | .cho _ _ _ => c.cho
  | .call _ _ => c.call
def PartsAt (c : Cs) (H : Hp) (F : Fm) (x : Addr) (Ps : List (Fm × Addr)) : Prop := ∃ dx fl, H x = some (.ins (clsOf c F) dx fl) ∧ match F with
  | .at' r p => ∃ y, fl = ([("row", .int r), ("place", .ref y)] : List (Str × V)) ∧ Ps = [(p, y)]
  | .pair s l r => ∃ y z, fl = ([("sign", .str s), ("left", .ref y), ("right", .ref z)] : List (Str × V)) ∧ Ps = [(l, y), (r, z)]
  | .cho t l r => ∃ u y z, fl = ([("test", .ref u), ("left", .ref y), ("right", .ref z)] : List (Str × V)) ∧ Ps = [(t, u), (l, y), (r, z)]
  | .call a gs => ∃ l, fl = ([("at", .int a), ("handed", .ref l)] : List (Str × V)) ∧ H l = some (.lst (Ps.map fun p => V.ref p.2))
  | _ => Ps = []
theorem PartsAt.same {c : Cs} {H H' : Hp} {F : Fm} {x : Addr} {Ps : List (Fm × Addr)} (h : PartsAt c H F x Ps) (s : Same H H') : PartsAt c H' F x Ps := by
  obtain ⟨dx, fl, a, b⟩ := h
  refine ⟨dx, fl, s _ _ a, ?_⟩
  cases F with
  | call a gs => obtain ⟨l, e, e2⟩ := b; exact ⟨l, e, s _ _ e2⟩
  | num n => exact b
  | here => exact b
  | cell r => exact b
  | shi r b' o => exact b
  | loc a => exact b
  | at' r p => exact b
  | pair s l r => exact b
  | cho t l r => exact b
theorem forms_pairs {c : Cs} {H : Hp} : ∀ {gs : Fms} {ys : List Addr}, FormsAt c H gs ys → ∃ Ps : List (Fm × Addr), Ps.map Prod.fst = gs.toL ∧ Ps.map Prod.snd = ys ∧ ∀ p ∈ Ps, FormAt c H p.1 p.2
  | .nil, ys, h => by cases (show ys = [] from h); exact ⟨[], rfl, rfl, fun p hp => nomatch hp⟩
  | .cons f r, ys, h => by
    obtain ⟨y, t, rfl, h1, h2⟩ := h
    obtain ⟨Ps, a, b, d⟩ := forms_pairs h2
    refine ⟨(f, y) :: Ps, by rw [List.map_cons, a]; rfl, by rw [List.map_cons, b], fun p hp => ?_⟩
    rcases List.mem_cons.mp hp with rfl | hp
    · exact h1
    · exact d p hp
theorem parts_at {c : Cs} {H : Hp} {F : Fm} {x : Addr} (h : FormAt c H F x) : ∃ Ps, PartsAt c H F x Ps ∧ Ps.map Prod.fst = partsF F ∧ ∀ p ∈ Ps, FormAt c H p.1 p.2 := by
  cases F with
  | num n => obtain ⟨dx, e⟩ := h; exact ⟨[], ⟨dx, _, e, rfl⟩, rfl, fun p hp => nomatch hp⟩
  | here => obtain ⟨dx, e⟩ := h; exact ⟨[], ⟨dx, _, e, rfl⟩, rfl, fun p hp => nomatch hp⟩
  | cell r => obtain ⟨dx, e⟩ := h; exact ⟨[], ⟨dx, _, e, rfl⟩, rfl, fun p hp => nomatch hp⟩
  | shi r b o => obtain ⟨dx, e⟩ := h; exact ⟨[], ⟨dx, _, e, rfl⟩, rfl, fun p hp => nomatch hp⟩
  | loc a => obtain ⟨dx, e⟩ := h; exact ⟨[], ⟨dx, _, e, rfl⟩, rfl, fun p hp => nomatch hp⟩
  | at' r p =>
    obtain ⟨dx, y, e, f⟩ := h
    exact ⟨[(p, y)], ⟨dx, _, e, y, rfl, rfl⟩, rfl, fun q hq => by cases List.mem_singleton.mp hq; exact f⟩
  | pair s l r =>
    obtain ⟨dx, y, z, e, f, g⟩ := h
    refine ⟨[(l, y), (r, z)], ⟨dx, _, e, y, z, rfl, rfl⟩, rfl, fun q hq => ?_⟩
    simp only [List.mem_cons, List.not_mem_nil, or_false] at hq
    rcases hq with rfl | rfl
    · exact f
    · exact g
  | cho t l r =>
    obtain ⟨dx, u, y, z, e, d, f, g⟩ := h
    refine ⟨[(t, u), (l, y), (r, z)], ⟨dx, _, e, u, y, z, rfl, rfl⟩, rfl, fun q hq => ?_⟩
    simp only [List.mem_cons, List.not_mem_nil, or_false] at hq
    rcases hq with rfl | rfl | rfl
    · exact d
    · exact f
    · exact g
  | call a gs =>
    obtain ⟨dx, l, ys, e, el, f⟩ := h
    obtain ⟨Ps, p1, p2, p3⟩ := forms_pairs f
    refine ⟨Ps, ⟨dx, _, e, l, rfl, ?_⟩, p1, p3⟩
    rw [el, ← p2, List.map_map]
    rfl
end F2
namespace K20
open PySem L2 FM
structure KForm (K : PySem.W.Frag) (c : F2.Cs) (C : Addr) (bA bP bO bK : Bool) : Prop where
  cl : Cls K C
  k1 : PySem.W.findIn K (.ref C) "__class__" = some (some (.builtin "object.__class__"))
  k2 : PySem.W.specialIn K (.builtin "object.__class__") "__get__" = some (some (.builtin "getset_descriptor.__get__"))
  k3 : PySem.W.takesIn K (.builtin "object.__class__") = some true
  k4 : PySem.W.mroIn K C (.type "object") = some true
  a : PySem.W.kitOne K (.ref C) (.ref c.at') = some bA
  p : PySem.W.kitOne K (.ref C) (.ref c.pair) = some bP
  o : PySem.W.kitOne K (.ref C) (.ref c.cho) = some bO
  k : PySem.W.kitOne K (.ref C) (.ref c.call) = some bK
theorem KForm.ty {K : PySem.W.Frag} {c : F2.Cs} {C : Addr} {bA bP bO bK : Bool} (s : KForm K c C bA bP bO bK) {H : Hp} {x dx : Addr} {fl : List (Str × V)} (h : H x = some (.ins C dx fl)) : TyX K H (.ref x) (.ref C) := .inl (.ins h s.cl s.k1 s.k2 s.k3 s.k4)
structure LooksK (K : PySem.W.Frag) (c : F2.Cs) : Prop where
  num : KForm K c c.num false false false false
  here : KForm K c c.here false false false false
  cell : KForm K c c.cell false false false false
  shi : KForm K c c.shi false false false false
  loc : KForm K c c.loc false false false false
  at' : KForm K c c.at' true false false false
  pair : KForm K c c.pair false true false false
  cho : KForm K c c.cho false false true false
  call : KForm K c c.call false false false true
  aP : NoAttr K c.at' "place"
  pL : NoAttr K c.pair "left"
  pR : NoAttr K c.pair "right"
  oT : NoAttr K c.cho "test"
  oL : NoAttr K c.cho "left"
  oR : NoAttr K c.cho "right"
  kH : NoAttr K c.call "handed"
  kA : NoAttr K c.call "at"
end K20
namespace F2
def isAt : Fm → Bool
  | .at' _ _ => true
  | _ => false
def isPair : Fm → Bool
  | .pair _ _ _ => true
  | _ => false
def isCho : Fm → Bool
  | .cho _ _ _ => true
  | _ => false
def isCall : Fm → Bool
  | .call _ _ => true
  | _ => false
end F2
namespace K20
open PySem L2 FM
theorem LooksK.of {K : PySem.W.Frag} {c : F2.Cs} (L : LooksK K c) (F : F2.Fm) : KForm K c (F2.clsOf c F) (F2.isAt F) (F2.isPair F) (F2.isCho F) (F2.isCall F) := by
  cases F with
  | num n => exact L.num
  | here => exact L.here
  | cell r => exact L.cell
  | shi r b o => exact L.shi
  | loc a => exact L.loc
  | at' r p => exact L.at'
  | pair s l r => exact L.pair
  | cho t l r => exact L.cho
  | call a gs => exact L.call
section
variable {P : Program} {w : World} {K : PySem.W.Frag} {mg : Str → Option Value} {base : Heap}
def spParts (c : F2.Cs) : Sp := fun vs H Q _ => ∃ (x : Addr) (F : F2.Fm) (Ps : List (F2.Fm × Addr)), vs = [.ref x] ∧ F2.PartsAt c H F x Ps ∧ ∀ H' l, Hd H [(l, .lst (Ps.map fun p => V.ref p.2))] H' → Q (.ref l) H'
theorem ok_parts {c : F2.Cs} (d : DefIn K mg "parts_of" s_parts_of ["form"]) (hisi : mg "isinstance" = none) (hlist : mg "list" = none) (hAt : mg "At" = some (.ref c.at')) (hPa : mg "Pair" = some (.ref c.pair)) (hCo : mg "Choice" = some (.ref c.cho)) (hCa : mg "Call" = some (.ref c.call)) (L : LooksK K c) : Ok P w K mg base (CXe P w base) 1 "parts_of" ["form"] (spParts c) := by
  obtain ⟨g, fd, m, F, b⟩ := d
  refine ⟨g, fd, m, F.kp, b, F.okE sc_parts_of (fun vs H Q E ⟨_, _, _, e, _⟩ => by rw [e]; rfl) fun cdv A outer s H vs Q E hr h => ?_⟩
  obtain ⟨x, G, Ps, rfl, ⟨dx, fl, hx, hp⟩, q⟩ := h
  refine ⟨_, (pss_cons (ps_if (pt_val (pe_callB call_isinst (by rfl) hisi PyProof.Rows.boot_isinstance (pa_cons (pv 0) (pa_cons (pe_gref hAt) pa_nil)))) (pss_one (ps_ret (pe_lst (pa_cons (pe_fld (pv 0) rfl) pa_nil)))) pss_nil)
      (pss_cons (ps_if (pt_val (pe_callB call_isinst (by rfl) hisi PyProof.Rows.boot_isinstance (pa_cons (pv 0) (pa_cons (pe_gref hPa) pa_nil)))) (pss_one (ps_ret (pe_lst (pa_cons (pe_fld (pv 0) rfl) (pa_cons (pe_fld (pv 0) rfl) pa_nil))))) pss_nil)
      (pss_cons (ps_if (pt_val (pe_callB call_isinst (by rfl) hisi PyProof.Rows.boot_isinstance (pa_cons (pv 0) (pa_cons (pe_gref hCo) pa_nil)))) (pss_one (ps_ret (pe_lst (pa_cons (pe_fld (pv 0) rfl) (pa_cons (pe_fld (pv 0) rfl) (pa_cons (pe_fld (pv 0) rfl) pa_nil)))))) pss_nil)
      (pss_cons (ps_if (pt_val (pe_callB call_isinst (by rfl) hisi PyProof.Rows.boot_isinstance (pa_cons (pv 0) (pa_cons (pe_gref hCa) pa_nil)))) (pss_one (ps_ret (pe_callTy call_list_of (by rfl) hlist PyProof.Rows.boot_list (pa_cons (pe_fld (pv 0) rfl) pa_nil)))) pss_nil)
      (pss_one (ps_ret (pe_lst pa_nil))))))), ?_⟩
  by_cases hl : ∃ C, KForm K c C false false false false ∧ H x = some (.ins C dx fl) ∧ Ps = []
  · obtain ⟨C, s, hx, e⟩ := hl
    refine ⟨_, rfl, _, _, .ref c.at', _, false, rfl, rfl, (fun u r => r), s.ty hx, s.a, false, rfl, iteF ?_⟩
    refine ⟨_, rfl, _, _, .ref c.pair, _, false, rfl, rfl, (fun u r => r), s.ty hx, s.p, false, rfl, iteF ?_⟩
    refine ⟨_, rfl, _, _, .ref c.cho, _, false, rfl, rfl, (fun u r => r), s.ty hx, s.o, false, rfl, iteF ?_⟩
    refine ⟨_, rfl, _, _, .ref c.call, _, false, rfl, rfl, (fun u r => r), s.ty hx, s.k, false, rfl, iteF ?_⟩
    exact ⟨(by show 0 ≤ sizeLine; decide), fun l nl => q _ l (by subst e; exact Hd.base.new nl)⟩
  cases G with
  | num n => exact absurd ⟨_, L.num, hx, hp⟩ hl
  | here => exact absurd ⟨_, L.here, hx, hp⟩ hl
  | cell r => exact absurd ⟨_, L.cell, hx, hp⟩ hl
  | shi r b o => exact absurd ⟨_, L.shi, hx, hp⟩ hl
  | loc a => exact absurd ⟨_, L.loc, hx, hp⟩ hl
  | at' r p =>
    obtain ⟨y, rfl, rfl⟩ := hp
    refine ⟨_, rfl, _, _, .ref c.at', _, true, rfl, rfl, (fun u r => r), L.at'.ty hx, L.at'.a, true, rfl, iteT ?_⟩
    exact ⟨_, rfl, x, _, dx, _, .ref y, rfl, hx, L.at'.cl, L.aP, rfl, (by show 1 ≤ sizeLine; decide), fun l nl => q _ l (Hd.base.new nl)⟩
  | pair s' l' r' =>
    obtain ⟨y, z, rfl, rfl⟩ := hp
    refine ⟨_, rfl, _, _, .ref c.at', _, false, rfl, rfl, (fun u r => r), L.pair.ty hx, L.pair.a, false, rfl, iteF ?_⟩
    refine ⟨_, rfl, _, _, .ref c.pair, _, true, rfl, rfl, (fun u r => r), L.pair.ty hx, L.pair.p, true, rfl, iteT ?_⟩
    exact ⟨_, rfl, x, _, dx, _, .ref y, rfl, hx, L.pair.cl, L.pL, rfl, _, rfl, x, _, dx, _, .ref z, rfl, hx, L.pair.cl, L.pR, rfl, (by show 2 ≤ sizeLine; decide), fun l nl => q _ l (Hd.base.new nl)⟩
  | cho t l' r' =>
    obtain ⟨u, y, z, rfl, rfl⟩ := hp
    refine ⟨_, rfl, _, _, .ref c.at', _, false, rfl, rfl, (fun u r => r), L.cho.ty hx, L.cho.a, false, rfl, iteF ?_⟩
    refine ⟨_, rfl, _, _, .ref c.pair, _, false, rfl, rfl, (fun u r => r), L.cho.ty hx, L.cho.p, false, rfl, iteF ?_⟩
    refine ⟨_, rfl, _, _, .ref c.cho, _, true, rfl, rfl, (fun u r => r), L.cho.ty hx, L.cho.o, true, rfl, iteT ?_⟩
    exact ⟨_, rfl, x, _, dx, _, .ref u, rfl, hx, L.cho.cl, L.oT, rfl, _, rfl, x, _, dx, _, .ref y, rfl, hx, L.cho.cl, L.oL, rfl, _, rfl, x, _, dx, _, .ref z, rfl, hx, L.cho.cl, L.oR, rfl, (by show 3 ≤ sizeLine; decide), fun l nl => q _ l (Hd.base.new nl)⟩
  | call a gs =>
    obtain ⟨hd, rfl, el⟩ := hp
    refine ⟨_, rfl, _, _, .ref c.at', _, false, rfl, rfl, (fun u r => r), L.call.ty hx, L.call.a, false, rfl, iteF ?_⟩
    refine ⟨_, rfl, _, _, .ref c.pair, _, false, rfl, rfl, (fun u r => r), L.call.ty hx, L.call.p, false, rfl, iteF ?_⟩
    refine ⟨_, rfl, _, _, .ref c.cho, _, false, rfl, rfl, (fun u r => r), L.call.ty hx, L.call.o, false, rfl, iteF ?_⟩
    refine ⟨_, rfl, _, _, .ref c.call, _, true, rfl, rfl, (fun u r => r), L.call.ty hx, L.call.k, true, rfl, iteT ?_⟩
    exact ⟨_, rfl, x, _, dx, _, .ref hd, rfl, hx, L.call.cl, L.kH, rfl, hd, _, rfl, .inl (SqL.of el), fun l nl => q _ l (Hd.base.new nl)⟩
def SumP (Ps : List (F2.Fm × Addr)) (F : F2.Fm) : Prop := ∀ (own φ : F2.Fm → Int), (∀ G, φ G = own G + ((F2.partsF G).map φ).sum) → (Ps.map fun p => own p.1).sum = φ F
def HerP (Ps : List (F2.Fm × Addr)) (F : F2.Fm) : Prop := ∀ R : F2.Fm → Prop, (∀ G, R G → ∀ g ∈ F2.partsF G, R g) → R F → ∀ p ∈ Ps, R p.1
def spWithin (c : F2.Cs) : Sp := fun vs H Q _ => ∃ (x : Addr) (F : F2.Fm) (B : Hp), vs = [.ref x] ∧ Same B H ∧ F2.FormAt c B F x ∧ F2.nodes F ≤ 2000 ∧ ∀ H' l Ps, Hd H [(l, .lst (Ps.map fun p => V.ref p.2))] H' → (∀ p ∈ Ps, F2.FormAt c B p.1 p.2) → Ps.length = F2.nodes F → SumP Ps F → HerP Ps F → Q (.ref l) H'
theorem ok_within {c : F2.Cs} (d : DefIn K mg "forms_within" s_forms_within ["form"]) (hlen : mg "len" = none) (PO : Ok P w K mg base (CXe P w base) 1 "parts_of" ["form"] (spParts c)) : Ok P w K mg base CX0 2 "forms_within" ["form"] (spWithin c) := by
  obtain ⟨g, fd, m, F, b⟩ := d
  refine ⟨g, fd, m, F.kp, b, F.ok sc_forms_within (fun vs H Q E ⟨_, _, _, e, _⟩ => by rw [e]; rfl) fun cdv A outer s H vs Q E hr h => ?_⟩
  obtain ⟨x, G, B, rfl, sB, hx, hn, q⟩ := h
  have nd := sc_forms_within.nd
  have hr1 := hr
  have SL : (3000 : Nat) < sizeLine := by decide
  refine ⟨_, (pss_cons (ps_set (i := 1) nd rfl (Or.inl rfl) (pe_lst (pa_cons (pv 0) pa_nil)))
      (pss_cons (ps_set (i := 2) nd rfl (Or.inl rfl) pe_int)
      (pss_cons (ps_while PassesOwn.never (pt_cmpR op_lt (pv 2) (pe_callB call_len_seq (by rfl) hlen PySem.boot_len (pa_cons (pv 1) pa_nil)) (nomark _)) (pss_cons (ps_expr (pe_bm PySem.F.plainAttrs_list PySem.F.slot_list_extend PySem.F.type_list_extend mt_extend (pv 1) (pa_cons (pe_ok PO hr1 (by rfl) passF (pa_cons (pe_ix ix_list (pv 1) (pv 2) (fun _ _ => rfl)) pa_nil)) pa_nil)))
      (pss_one (ps_set (i := 2) nd rfl (Or.inl rfl) (pe_op op_add (pv 2) pe_int)))))
      (pss_one (ps_ret (pv 1)))))), ?_⟩
  refine ⟨_, rfl, (by show 1 ≤ sizeLine; decide), fun l nl => ?_⟩
  have h0 : Hd H [(l, .lst (([] ++ [(G, x)] : List (F2.Fm × Addr)).map fun p => V.ref p.2))] (upd H l (.lst [.ref x])) := Hd.base.new nl
  refine ⟨fun m σ J => ∃ (done todo : List (F2.Fm × Addr)), σ = [some (.ref x), some (.ref l), some (.int (done.length : Int))] ∧ Hd H [(l, .lst ((done ++ todo).map fun p => V.ref p.2))] J ∧ (∀ p ∈ done ++ todo, F2.FormAt c B p.1 p.2) ∧ m = (todo.map fun p => F2.nodes p.1).sum ∧ done.length + m = F2.nodes G ∧ (∀ (own φ : F2.Fm → Int), (∀ G, φ G = own G + ((F2.partsF G).map φ).sum) → ((done.map fun p => own p.1).sum + (todo.map fun p => φ p.1).sum = φ G)) ∧ HerP (done ++ todo) G, ⟨_, [], [(G, x)], rfl, h0, (fun p hp => by cases List.mem_singleton.mp hp; exact hx), rfl, by simp, (fun own φ _ => by simp), fun R _ h p hp => by cases List.mem_singleton.mp hp; exact h⟩, ?_⟩
  rintro m σ J ⟨done, todo, rfl, h, hA, rfl, hm, hs, hh⟩
  refine ⟨_, rfl, _, rfl, l, _, rfl, .inl (h.lst 0 rfl), _, _, rfl, rfl, _, rfl, ?_⟩
  rw [List.length_map, List.length_append]
  refine ite2 (fun z => ?_) (fun z => ?_)
  · have z : (done.length : Int) < ((done.length + todo.length : Nat) : Int) := by simpa using z
    cases todo with
    | nil => simp at z
    | cons p rest =>
      refine ⟨fun σ' H' => ∃ m', m' < ((p :: rest).map fun p => F2.nodes p.1).sum ∧ _, fun _ _ q => q, ?_⟩
      obtain ⟨Qs, q1, q2, q3⟩ := F2.parts_at (hA p (List.mem_append_right _ List.mem_cons_self))
      have ne := F2.nodes_eq p.1
      have qn : (Qs.map fun p => F2.nodes p.1).sum + 1 = F2.nodes p.1 := by
        rw [ne, ← q2, List.map_map]; rfl
      have pa : ((done ++ p :: rest).map fun p => V.ref p.2)[done.length]? = some (V.ref p.2) := by
        rw [List.getElem?_map, List.getElem?_append_right (Nat.le_refl _), Nat.sub_self]
        rfl
      have len : ∀ ps : List (F2.Fm × Addr), ps.length ≤ (ps.map fun p => F2.nodes p.1).sum := fun ps => by
        induction ps with
        | nil => exact Nat.le_refl _
        | cons a t ih =>
          rw [List.map_cons, List.sum_cons, List.length_cons, F2.nodes_eq]
          omega
      have b1 := len rest
      have b2 := len Qs
      rw [List.map_cons, List.sum_cons] at hm
      refine ⟨_, rfl, .inl ⟨rfl, _, h.lst 0 rfl⟩, _, rfl, _, rfl, l, _, _, _, rfl, rfl, h.lst 0 rfl, atI_nat pa, p.2, p.1, Qs, rfl, q1.same (sB.trans h.sm), fun J1 l1 h1 => ?_⟩
      have h2 := h.same h1.sm
      refine ⟨l, l1, _, _, rfl, rfl, h2.get 0 rfl, h1.get 0 rfl, (by rw [List.length_map, List.length_map, List.length_append, List.length_cons]; omega), ?_⟩
      have h3 := h2.put (o' := .lst (((done ++ [p]) ++ (rest ++ Qs)).map fun p => V.ref p.2)) 0 rfl
      have el : ((done ++ p :: rest).map fun p => V.ref p.2) ++ (Qs.map fun p => V.ref p.2) = ((done ++ [p]) ++ (rest ++ Qs)).map fun p => V.ref p.2 := by
        rw [← List.map_append]
        congr 1
        simp
      rw [el]
      refine ⟨_, rfl, _, _, rfl, rfl, ?_⟩
      refine ⟨((rest ++ Qs).map fun p => F2.nodes p.1).sum, ?_, done ++ [p], rest ++ Qs, ?_, h3, fun r hr => ?_, rfl, ?_, fun own φ ad => ?_, fun R her h0 r hr => ?_⟩
      · rw [List.map_append, List.sum_append, List.map_cons, List.sum_cons]
        omega
      · rw [List.length_append]
        rfl
      · rcases List.mem_append.mp hr with hr | hr
        · rcases List.mem_append.mp hr with hr | hr
          · exact hA r (List.mem_append_left _ hr)
          · cases List.mem_singleton.mp hr
            exact hA _ (List.mem_append_right _ List.mem_cons_self)
        · rcases List.mem_append.mp hr with hr | hr
          · exact hA r (List.mem_append_right _ (List.mem_cons_of_mem _ hr))
          · exact q3 r hr
      · rw [List.map_append, List.sum_append, List.length_append]
        show done.length + 1 + _ = _
        omega
      · have e := hs own φ ad
        rw [List.map_cons, List.sum_cons] at e
        have ep := ad p.1
        rw [← q2, List.map_map] at ep
        have ep : φ p.1 = own p.1 + (Qs.map fun p => φ p.1).sum := ep
        rw [List.map_append, List.sum_append, List.map_append, List.sum_append]
        show _ + (own p.1 + 0) + _ = _
        omega
      · rcases List.mem_append.mp hr with hr | hr
        · rcases List.mem_append.mp hr with hr | hr
          · exact hh R her h0 r (List.mem_append_left _ hr)
          · cases List.mem_singleton.mp hr
            exact hh R her h0 _ (List.mem_append_right _ List.mem_cons_self)
        · rcases List.mem_append.mp hr with hr | hr
          · exact hh R her h0 r (List.mem_append_right _ (List.mem_cons_of_mem _ hr))
          · exact her p.1 (hh R her h0 p (List.mem_append_right _ List.mem_cons_self)) r.1 (by rw [← q2]; exact List.mem_map_of_mem hr)
  · have z : ¬ (done.length : Int) < ((done.length + todo.length : Nat) : Int) := by simpa using z
    have e : todo = [] := List.eq_nil_of_length_eq_zero (by omega)
    subst e
    rw [List.append_nil] at h hA hh
    exact ⟨_, rfl, q _ l done h hA (by simpa using hm) (fun own φ ad => by have := hs own φ ad; simpa using this) hh⟩
end
end K20
namespace L2
open PySem PySem.Spec PyProof.Rows
theorem but_free {H : Hp} {a b : Addr} (n : but H [a] b = none) (ne : b ≠ a) : H b = none := by
  unfold but at n
  rw [if_neg (by simp [ne])] at n
  exact n
section
variable {X : Cx} {pins : List (Addr × Obj)} {σ σ' : St} {H H' : Hp} {s s' : Shared} {a : Addr} {xs : List V}
def tHide (te : TE) : TE := fun σ H Q => ∃ (a : Addr) (xs : List V), H a = some (.lst xs) ∧ te σ (but H [a]) fun v H' => H' a = none → Q v (upd H' a (.lst xs))
end
namespace Hd
variable {B : Hp} {L L' : List (Addr × HO)} {H : Hp}
theorem split (h : Hd B L H) (s : List.Sublist L' L) : Same B (but H (L'.map Prod.fst)) ∧ Hd (but H (L'.map Prod.fst)) L' H := by
  refine ⟨fun b o z => but_of (h.sm _ _ z) fun m => ?_, (h.sub s).nd, fun p m => but_none (List.mem_map_of_mem m), (h.sub s).st, but_sub⟩
  obtain ⟨p, mp, e⟩ := List.mem_map.mp m
  have := h.nw p (s.subset mp)
  rw [e] at this
  rw [this] at z; cases z
end Hd
end L2
namespace L2
open PySem PySem.Spec PyProof.Rows
def ItS (lo c : Int) (n : Nat) : It := ⟨fun i _ => i < n, fun i H x H' => H' = H ∧ x = .int (lo + i * c), fun i _ => n ≤ i⟩
theorem turn_stepped {P : Program} {w : World} {K : PySem.W.Frag} {tg : Expr} (it : Addr) (lo c : Int) (n : Nat) :
    Turn P w K tg (ItS lo c n) [it] it (fun i h => IsRangeIter h it (lo + (i : Nat) * c) ((n : Int) - (i : Nat)) c) where
  mem := List.mem_singleton_self it
  obj := fun i h st b hb => by
    cases List.mem_singleton.mp hb
    refine ⟨_, st, fun v z => ?_⟩
    have y : Data.fields _ = Data.cell v := z
    cases y
  keep := fun i h h' st k => k it (List.mem_singleton_self it) _ st
  item := by
    intro X hP hw hK hc i pins s σ H E I hf st hg
    subst hP; subst hw; subst hK
    obtain ⟨a0, a1, a2, a3, a4, a5⟩ := hf it (List.mem_singleton_self it)
    refine (Walks.range (prog := X.prog) (w := X.w) (I.ok.hd hc) it lo c n).item i s _ _ hg st fun v h' tk hv st' kk => ?_
    obtain ⟨t, rfl⟩ := hv
    have J : Inv X pins σ H { s with heap := h', toks := tk } := I.turned (fun b o hb e => kk b o (by simpa using hb) e) a0 a1 a3 a4 a5
    exact ⟨_, rfl, go_of (s := { s with heap := h', toks := tk }) (n := "range_iterator") st' rfl rfl (by decide) ⟨.int (lo + i * c), H, J, ⟨t, rfl⟩, ⟨rfl, rfl⟩, st', fun b hb => (hf b hb).1⟩⟩
  done := by
    intro X hP hw hK hc i pins s σ H E I hf st hg
    subst hP; subst hw; subst hK
    obtain ⟨a0, a1, a2, a3, a4, a5⟩ := hf it (List.mem_singleton_self it)
    have hn : n ≤ i := hg
    exact wpAny_pyNext_range_end (I.ok.hd hc) st (by omega) fun h' eb => ⟨rfl, I.turned (t' := s.toks) (fun b o hb e => eb b o hb e) a0 a1 a3 a4 a5⟩
  self := fun _ _ _ _ _ st h => wpAny_pyIter_rangeiter st h
theorem small_step {a b c : Int} (ha : 0 ≤ a) (ha' : a < 2 ^ 40) (hb : 0 ≤ b) (hb' : b < 2 ^ 40) (h0 : 0 < c) (h1 : c < 2 ^ 20) : Builtin.Range.small a b c = true := by
  unfold Builtin.Range.small
  have q : Builtin.Range.rangeSize a b c ≤ 2 ^ 40 ∧ 0 ≤ Builtin.Range.rangeSize a b c := by
    unfold Builtin.Range.rangeSize
    rw [if_pos (show c > 0 from h0)]
    split
    · have z := Int.ediv_le_self (b := c) (show 0 ≤ b - a - 1 by omega)
      have y := Int.ediv_nonneg (show 0 ≤ b - a - 1 by omega) (show 0 ≤ c by omega)
      omega
    · omega
  simp only [Builtin.Range.rangeFitsLong, Bool.and_eq_true, Bool.or_eq_true, decide_eq_true_eq, beq_iff_eq]
  refine ⟨⟨⟨⟨⟨by omega, by omega⟩, by omega, by omega⟩, by omega, by omega⟩, by omega, by omega⟩, .inr ?_⟩
  rw [if_pos (show c > 0 from h0), decide_eq_true (show -2 ^ 63 ≤ b + (c - 1) by omega), decide_eq_true (show b + (c - 1) < 2 ^ 63 by omega)]
  rfl
section
variable {X : Cx} {tg : Expr}
def iRngS (ta : TA) : TI := fun σ H R => ta σ H fun vs H1 => ∃ (i j c : Int) (n : Nat), vs = [.int i, .int j, .int c] ∧ (0 ≤ i ∧ i < 2 ^ 40 ∧ 0 ≤ j ∧ j < 2 ^ 40 ∧ 0 < c ∧ c < 2 ^ 20) ∧ Builtin.Range.rangeSize i j c = n ∧ R (ItS i c n) H1
theorem stepped_it {pins : List (Addr × Obj)} {σ : St} {H : Hp} {s : Shared} {R : It → Hp → Prop} {E : Value → Shared → Prop} {lo hi c : Int} {n : Nat} {t u v : Tok} {tk : Nat} (I : Inv X pins σ H s) (hs : Builtin.Range.small lo hi c = true) (hn : Builtin.Range.rangeSize lo hi c = n)
    (q : R (ItS lo c n) H) : wpAny (model X.prog X.w) X.A (pyIter (.ref s.heap.objs.size)) (PIE X pins σ tg R) E { s with heap := s.heap.push { cls := .type "range", data := .fields #[.int lo t, .int hi u, .int c v] }, toks := tk } := by
  refine wpAny_pyIter_range (IsRange.new ..) hs ?_
  have J : Inv X pins σ H { s with heap := s.heap.push { cls := .type "range", data := .fields #[.int lo t, .int hi u, .int c v] }, toks := tk } := I.kept fun b o e => Heap.get?_push_of_some _ e
  generalize hh : s.heap.push { cls := .type "range", data := .fields #[.int lo t, .int hi u, .int c v] } = h1 at J ⊢
  refine ⟨h1.objs.size, [h1.objs.size], _, _, H, rfl, J.kept (t' := tk) fun b o e => Heap.get?_push_of_some _ e, turn_stepped _ lo c n, ?_, fun b hb => ?_, q⟩
  · show IsRangeIter _ _ (lo + ((0 : Nat) : Int) * c) ((n : Int) - ((0 : Nat) : Int)) c
    rw [show lo + ((0 : Nat) : Int) * c = lo by simp, show (n : Int) - ((0 : Nat) : Int) = Builtin.Range.rangeSize lo hi c by rw [hn]; simp]
    exact Heap.get?_push_size _ rfl
  · cases List.mem_singleton.mp hb
    exact J.fpOk (Nat.le_refl _) (J.hok.fresh (Nat.le_refl _))
theorem pi_range3 {a b c : Expr} {ta : TA} {p pos : Pos} (hg : Gl X "range") (hm : X.mg "range" = none) (ha : PA X [a, b, c] ta) (hs : starEach [a, b, c] X.env = [(false, eval a X.env), (false, eval b X.env), (false, eval c X.env)] := by rfl)
    (hs2 : starEach [b, c] X.env = [(false, eval b X.env), (false, eval c X.env)] := by rfl) : PI X tg (.Call (.Name "range" p) [a, b, c] [] pos) (iRngS ta) := by
  intro pins s σ H R I h
  refine Call_ (ld_blt I hg hm boot_range (PyProof.Rows.callWith_type1 (thn (ha pos pins s σ H _ I h) fun us s1 ⟨vs, H1, I1, r1, q1⟩ => ?_) (by rw [hs, hs2]) (by rw [hs2]; rfl)))
  obtain ⟨i, j, k, n, e, ⟨b1, b2, b3, b4, b5, b6⟩, en, q⟩ := q1
  subst e
  cases r1 with
  | cons r rr =>
    cases rr with
    | cons r' rr =>
      cases rr with
      | cons r'' rr =>
        cases rr
        obtain ⟨t, rfl⟩ := r
        obtain ⟨t', rfl⟩ := r'
        obtain ⟨t'', rfl⟩ := r''
        refine call_range_3 (by omega) (stepped_it I1 (small_step b1 b2 b3 b4 b5 b6) en q) (.inl ?_)
        exact PyProof.noPylong_small (by omega)
end
end L2
namespace L2
open PySem PySem.Spec PyProof.Rows
section
variable {X : Cx}
def rNeS (K : PySem.W.Frag) : R2 := fun x y H Q => ∃ (a b : Addr) (as : List Addr), x = .ref a ∧ y = .ref b ∧ SqL K H a (as.map V.ref) ∧ SqL K H b (as.map V.ref) ∧ Q (.bl false) H
theorem for_step {lo c : Int} {n : Nat} {g : TG} {tb : TS} {D : Ends} {σ : St} {H : Hp} (Pv : Nat → St → Hp → Prop) (h0 : Pv 0 σ H)
    (hs : ∀ i σ H, i < n → Pv i σ H → g (.int (lo + i * c)) σ H fun σ2 H2 => tb { D with nx := Pv (i + 1), ct := Pv (i + 1), bk := D.nx } σ2 H2) (hd : ∀ σ H, Pv n σ H → D.nx σ H) :
    ∃ W : Nat → Nat → St → Hp → Prop, (∃ m, W 0 m σ H) ∧ ∀ i m σ H, W i m σ H →
      ((ItS lo c n).stop i H ∧ D.nx σ H) ∨ ((ItS lo c n).go i H ∧ ∃ N : St → Hp → Prop, (∀ σ' H', N σ' H' → ∃ m', m' < m ∧ W (i + 1) m' σ' H') ∧ ∀ x H', (ItS lo c n).yld i H x H' → g x σ H' fun σ2 H2 => tb { D with nx := N, ct := N, bk := D.nx } σ2 H2) := by
  refine ⟨fun i m σ H => m = n - i ∧ i ≤ n ∧ Pv i σ H, ⟨n, by simp, Nat.zero_le _, h0⟩, ?_⟩
  rintro i m σ H ⟨rfl, hi, p⟩
  by_cases hlt : i < n
  · refine .inr ⟨hlt, Pv (i + 1), fun σ' H' p' => ⟨n - (i + 1), by omega, rfl, hlt, p'⟩, fun x H' y => ?_⟩
    obtain ⟨e, y⟩ := y
    subst e y
    exact hs i σ _ hlt p
  · have e : i = n := by omega
    subst e
    exact .inl ⟨Nat.le_refl _, hd σ H p⟩
end
end L2
namespace L2
open PySem PySem.Spec PyProof.Rows
section
variable {X : Cx} {pins : List (Addr × Obj)} {σ σ' : St} {H H' : Hp} {s s' : Shared} {a : Addr} {xs : List V}
theorem Inv.frz (I : Inv X pins σ H s) (e : H a = some (.lst xs)) : ∃ ob : Obj, Inv X pins σ (upd H a (.frz ob (.lst xs))) s := by
  have ok := I.hok a _ e
  obtain ⟨hz, its, n, r, ea⟩ := id ok
  have na : ∀ {b : Addr}, H b = none → b ≠ a := fun {b} z y => by subst y; rw [e] at z; cases z
  have nn : ∀ {b : Addr} {o : HO}, H b = some o → o ≠ .lst xs → b ≠ a := fun {b o} z y m => by
    subst m; rw [e] at z; injection z with z; exact y z.symm
  refine ⟨{ cls := .type "list", data := .seq its.toArray n }, I.ok, I.os, I.bare, ⟨I.base.keep, I.base.slot, fun b o q m x => ?_, I.base.there, fun b ys q => ?_, fun b o u q => ?_, fun b ps q => ?_⟩, I.loc, I.cell, ?_, fun x c q => ?_, fun p m => ?_, fun b u q => ?_, I.len⟩
  · rw [upd_ne (na (I.base.free b o q m x))]; exact I.base.free b o q m x
  · rw [upd_ne (nn (I.base.tups b ys q) (fun z => by cases z))]; exact I.base.tups b ys q
  · rw [upd_ne (nn (I.base.frzs b o u q) (fun z => by cases z))]; exact I.base.frzs b o u q
  · obtain ⟨more, z⟩ := I.base.tbls b ps q
    exact ⟨more, by rw [upd_ne (nn z (fun z => by cases z))]; exact z⟩
  · rw [upd_ne (na I.free)]; exact I.free
  · rw [upd_ne (na (I.freeC x c q))]; exact I.freeC x c q
  · have q := I.pin p m
    exact ⟨q.1, by rw [upd_ne (na q.2.1)]; exact q.2.1, q.2.2⟩
  · by_cases hb : b = a
    · subst hb
      rw [upd_same] at q
      cases q
      exact ⟨ea, hz, its, n, r, ea⟩
    · rw [upd_ne hb] at q
      exact (I.hok b u q).stay (fun _ _ _ z => z) (fun c z => by rw [upd_ne (nn z (fun z => by cases z))]; exact z) (fun c ys z => by rw [upd_ne (nn z (fun z => by cases z))]; exact z)
def Part (H H' : Hp) : Prop := ∀ b o, (∀ x u, o ≠ .frz x u) → H b = some o → H' b = some o
def lsts (L : List (Addr × List V)) : List (Addr × HO) := L.map fun p => (p.1, .lst p.2)
def tFrz (te : TE) : TE := fun σ H Q => ∃ (B : Hp) (L : List (Addr × List V)), Hd B (lsts L) H ∧ ∀ J, Same B J → (∀ p ∈ L, ∃ ob, J p.1 = some (.frz ob (.lst p.2))) → te σ J fun v J2 => Same J J2 ∧ ∀ B' H', Same B B' → Part J2 B' → Hd B' (lsts L) H' → Q v H'
def tMidT (t : TT) : TT := fun σ H Q => ∃ M : Bool → Hp → Prop, t σ H M ∧ ∀ b H', M b H' → Q b H'
theorem pt_mid {e : Expr} {t : TT} (h : PT X e t) : PT X e (tMidT t) := by
  intro pins s σ H Q I q
  obtain ⟨M, q, k⟩ := q
  exact thn (h pins s σ H _ I q) fun b s1 z => let ⟨H', I', z⟩ := z; ⟨H', I', k _ _ z⟩
def rEqS (K : PySem.W.Frag) : R2 := fun x y H Q => ∃ (a b : Addr) (as : List Addr), x = .ref a ∧ y = .ref b ∧ SqL K H a (as.map V.ref) ∧ SqL K H b (as.map V.ref) ∧ Q (.bl true) H
end
end L2
namespace L2
open PySem PySem.Spec PyProof.Rows
theorem vals_len {vs : List V} {us : List Value} (h : Vals vs us) : us.length = vs.length := by
  induction h with
  | nil => rfl
  | cons _ _ ih => rw [List.length_cons, List.length_cons, ih]
def rAnyI (K : PySem.W.Frag) : List V → Hp → VK → Prop := fun xs H Q => ∃ (p : Addr) (ns : List Int), xs = [.ref p] ∧ SqL K H p (ns.map V.int) ∧ Q (.bl (ns.any fun v => decide (v ≠ 0))) H
section
variable {X : Cx}
end
end L2
namespace L2
open PySem PySem.Spec PyProof.Rows
section
variable {X : Cx} {pins : List (Addr × Obj)} {σ : St} {H : Hp} {s : Shared}
theorem kit_of {x : V} {u t : Value} (I : Inv X pins σ H s) (rx : RelV x u) (ty : TyOf X.K H x t) : ∃ Z : Heap → Prop, PySem.W.KitX X.K u t Z ∧ Z s.heap ∧ u ≠ .builtin "__main__.__loader__#opaque" := by
  cases ty with
  | non => cases (show u = Value.none from rx); exact ⟨_, PySem.W.kitx_none, True.intro, fun z => nomatch z⟩
  | bl y => cases (show u = Value.bool y from rx); exact ⟨_, PySem.W.kitx_bool, True.intro, fun z => nomatch z⟩
  | int i => obtain ⟨t, q⟩ := (show ∃ t, u = Value.int i t from rx); cases q; exact ⟨_, PySem.W.kitx_int, True.intro, fun z => nomatch z⟩
  | str y => obtain ⟨t, q⟩ := (show ∃ t, u = Value.str y t from rx); cases q; exact ⟨_, PySem.W.kitx_str, True.intro, fun z => nomatch z⟩
  | flt y => obtain ⟨t, q⟩ := (show ∃ t, u = Value.float y t from rx); cases q; exact ⟨_, PySem.W.kitx_float, True.intro, fun z => nomatch z⟩
  | @lst a xs ea =>
    cases (show u = Value.ref a from rx)
    obtain ⟨_, _, n, _, e1⟩ := (show ObjOk X.prog X.w H s.heap a (.lst xs) from I.hok a _ ea)
    exact ⟨_, PySem.W.kitx_list, ⟨_, e1, rfl⟩, fun z => nomatch z⟩
  | @frz a ob xs ea =>
    cases (show u = Value.ref a from rx)
    obtain ⟨_, _, _, n, _, e1⟩ := (show ObjOk X.prog X.w H s.heap a (.frz ob (.lst xs)) from I.hok a _ ea)
    exact ⟨_, PySem.W.kitx_list, ⟨_, e1, rfl⟩, fun z => nomatch z⟩
  | @tup a xs ea =>
    cases (show u = Value.ref a from rx)
    obtain ⟨_, _, _, p⟩ := (show ObjOk X.prog X.w H s.heap a (.tup xs) from I.hok a _ ea)
    obtain ⟨o, e1, e2, _⟩ := p
    exact ⟨_, PySem.W.kitx_tuple, ⟨o, e1, e2⟩, fun z => nomatch z⟩
  | @dK a kvs ea =>
    cases (show u = Value.ref a from rx)
    obtain ⟨_, _, vs, _, p⟩ := (show ObjOk X.prog X.w H s.heap a (.dK kvs) from I.hok a _ ea)
    obtain ⟨o, es, ep, e1, e2, _⟩ := p
    exact ⟨_, PySem.W.kitx_dict, ⟨o, e1, e2.1⟩, fun z => nomatch z⟩
  | @dT a kvs ea =>
    cases (show u = Value.ref a from rx)
    obtain ⟨_, _, xs, _, p⟩ := (show ObjOk X.prog X.w H s.heap a (.dT kvs) from I.hok a _ ea)
    obtain ⟨o, es, ep, e1, e2, _⟩ := p
    exact ⟨_, PySem.W.kitx_dict, ⟨o, e1, e2.1⟩, fun z => nomatch z⟩
  | @ins a C dx fs ea cl ha hn htk hm =>
    cases (show u = Value.ref a from rx)
    obtain ⟨mA, O, _⟩ := ins_get I.hok ea
    obtain ⟨od, J, _⟩ := O.look
    exact ⟨_, PySem.W.kitx_own (cl.get _) cl.hd ha hn htk hm, J, fun z => nomatch z⟩
def clsV : V → Value
  | .ref a => .ref a
  | .ty n => .type n
  | _ => .none
def isClsV : V → Bool
  | .ref _ => true
  | .ty _ => true
  | _ => false
theorem vals_cls : ∀ {cs : List V} {us : List Value}, cs.all isClsV = true → Vals cs us → us = cs.map clsV
  | [], _, _, .nil => rfl
  | c :: cs, _, h, .cons r rr => by
    rw [List.all_cons, Bool.and_eq_true] at h
    rw [vals_cls h.2 rr]
    cases c with
    | ref a => cases (show _ = Value.ref a from r); rfl
    | ty n => cases (show _ = Value.type n from r); rfl
    | _ => cases h.1
def rIsiT (K : PySem.W.Frag) : List V → Hp → VK → Prop := fun vs H Q => ∃ (x : V) (tp : Addr) (cs : List V) (t : Value) (b : Bool), vs = [x, .ref tp] ∧ H tp = some (.tup cs) ∧ cs.all isClsV = true ∧ TyOf K H x t ∧ PySem.W.kitAny K t (cs.map clsV) = some b ∧ Q (.bl b) H
theorem call_isinstT : CallR X (.builtin "isinstance") (rIsiT X.K) := by
  intro pins s σ H xs us Q I r h
  obtain ⟨x, tp, cs, t, b, rfl, et, hc, ty, e, q⟩ := h
  obtain ⟨u, w', rfl, ru, rw'⟩ := vals2 r
  cases (show w' = Value.ref tp from rw')
  obtain ⟨Z, kx, hz, nl⟩ := kit_of I ru ty
  obtain ⟨_, its, rv, ⟨cls, dd, data, sl⟩, e1, e2, n, e3⟩ := (show ObjOk X.prog X.w H s.heap tp (.tup cs) from I.hok tp _ et)
  simp only at e2 e3
  subst e2 e3
  rw [← vals_cls hc rv] at e
  exact PySem.W.kia_tup kx I.kIn hz e1 e nl fun tk => ⟨.bl b, H, I.tok _, rfl, q⟩
end
section
variable {prog : Program} {w : World} {A : Around} {E : Value → Shared → Prop} {s : Shared}
theorem draw_lst {k l : Addr} {xs : Array Value} (ne : l ≠ k) : ∀ (m j : Nat) (s : Shared) (R : List Value → Shared → Prop), s.heap.IsListIter k l j → s.heap.IsList l xs → j + m ≤ xs.size →
    (∀ h2, h2.IsListIter k l (j + m) → Heap.SameBut k s.heap h2 → R ((xs.toList.drop j).take m) { s with heap := h2 }) → wpAny (model prog w) A (draw (.ref k) m) R E s
  | 0, j, s, R, a, _, _, q => by
    show wpAny _ _ (pure []) R E s
    exact wpAny_pure (by simpa using q s.heap a (Heap.SameBut.refl ..))
  | m + 1, j, s, R, a, b, le, q => by
    have lt : j < xs.size := by omega
    show wpAny _ _ (pyNext (.ref k) >>= _) R E s
    refine wpAny_bind (wpAny_pyNext_list_item a b (x := xs[j]) (by simp [lt]) fun h1 a1 s1 => ?_)
    have b1 : h1.IsList l xs := by obtain ⟨o, eo, z⟩ := b; exact ⟨o, s1.extBut _ _ ne eo, z⟩
    refine wpAny_bind (wpAny_holding (draw_lst ne m (j + 1) _ _ a1 b1 (by omega) fun h2 a2 s2 => wpAny_pure ?_))
    have ed : xs.toList.drop j = xs[j] :: xs.toList.drop (j + 1) := by simp [List.drop_eq_getElem_cons, lt]
    have := q h2 (by rw [show j + (m + 1) = j + 1 + m by omega]; exact a2) (s1.trans s2)
    rw [ed, List.take_succ_cons] at this
    exact this
theorem unpackItems_lst {l : Addr} {xs : Array Value} {R : List Value → Shared → Prop} (hd : A.handled = none) (b : s.heap.IsList l xs)
    (q : ∀ h2, Heap.ExtBut s.heap.objs.size s.heap h2 → R xs.toList { s with heap := h2 }) : wpAny (model prog w) A (unpackItems (.ref l) xs.size none) R E s := by
  have ne : l ≠ s.heap.objs.size := by obtain ⟨o, eo, _⟩ := b; exact Nat.ne_of_lt (Heap.lt_size eo)
  unfold unpackItems
  refine wpAny_bind ?_
  unfold notIterableAtAll
  refine wpAny_bind (wpAny_specialOf b.typeIs slot_list_iter.lookup ?_)
  refine wpAny_pure ?_
  simp only [Bool.false_eq_true, if_false]
  refine wpAny_bind (wpAny_holding (wpAny_pyIter_list b ?_))
  refine wpAny_bind (wpAny_holding (draw_lst ne xs.size 0 _ _ ⟨_, Heap.get?_push_size _ rfl, rfl, rfl⟩ (b.push _) (by omega) fun h1 a1 s1 => ?_))
  have ea : List.take xs.size (List.drop 0 xs.toList) = xs.toList := by rw [List.drop_zero]; exact List.take_of_length_le (by simp)
  rw [ea, if_neg (by simp)]
  have b1 : h1.IsList l xs := by obtain ⟨o, eo, z⟩ := b.push _; exact ⟨o, s1.extBut _ _ ne eo, z⟩
  refine wpAny_bind (wpAny_holding (wpAny_pyNext_list_end hd a1 b1 (by simp) fun h2 s2 => ?_))
  simp only [Option.isSome_none, Bool.false_eq_true, if_false]
  exact wpAny_pure (q h2 fun c o hc e => s2 c o hc (s1.extBut c o hc (Heap.get?_push_of_some _ e)))
end
section
variable {X : Cx} {pos : Pos}
def gLst (K : PySem.W.Frag) (n : Nat) (t : TGs) : TG := fun v σ H Q => ∃ a xs, v = .ref a ∧ SqL K H a xs ∧ xs.length = n ∧ t xs σ H Q
theorem pg_lst {es : List Expr} {k : Nat} {t : TGs} {n : Nat} (hc : X.calm = true) (h : PGs X es t) (hn : (assignEach es X.env).length = n := by rfl) (hst : (assignEach es X.env).findIdx? (·.1) = none := by rfl) : PG X (.Tuple es k pos) (gLst X.K n t) := by
  intro pins s σ H v u Q I r hw
  obtain ⟨a, xs, e1, hq, hl, hw⟩ := hw
  subst e1
  cases r
  obtain ⟨its, rv, pl, _⟩ := I.list hq
  have z := rv.length
  have hb := pl.isList
  rw [assign_Tuple]
  refine wpAny_bind (wpAny_standAt ?_)
  unfold unpack
  rw [hst, show (assignEach es X.env).length = its.toArray.size by simp [hn, ← hl, z]]
  refine wpAny_bind (wpAny_holding (unpackItems_lst (I.ok.hd hc) hb fun h' hx => ?_))
  have I1 : Inv X pins σ H { s with heap := h' } := I.kept (t' := s.toks) fun b o e => hx b o (Nat.ne_of_lt (Heap.lt_size e)) e
  exact h pins _ σ H xs _ Q I1 (by simpa using rv) hw
def rAnyB (K : PySem.W.Frag) : List V → Hp → VK → Prop := fun xs H Q => ∃ (p : Addr) (bs : List Bool), xs = [.ref p] ∧ SqL K H p (bs.map V.bl) ∧ Q (.bl (bs.any id)) H
theorem bools_at {bs : List Bool} {us : List Value} (h : Vals (bs.map V.bl) us) (i : Nat) (v : Value) (e : us[i]? = some v) : ∃ b, bs[i]? = some b ∧ v = .bool b := by
  induction bs generalizing us i with
  | nil => cases h; cases e
  | cons b bs ih =>
    cases h with
    | cons r rr =>
      cases i with
      | zero => cases (show _ = Value.bool b from r); cases (show some _ = some v from e); exact ⟨b, rfl, rfl⟩
      | succ i => exact ih rr i e
theorem range_anyB (bs : List Bool) : ((List.range bs.length).any fun i => (bs[i]?).getD false) = bs.any id := by
  induction bs with
  | nil => rfl
  | cons n ns ih =>
    rw [List.length_cons, List.range_succ_eq_map, List.any_cons, List.any_map, List.any_cons, ← ih]
    rfl
theorem call_anyB (hc : X.calm = true) : CallR X (.builtin "any") (rAnyB X.K) := by
  intro pins s σ H xs us Q I r h
  obtain ⟨p, bs, rfl, hp, q⟩ := h
  obtain ⟨u, rfl, ru⟩ := r.one
  cases (show u = Value.ref p from ru)
  obtain ⟨its, rv, pl, _⟩ := I.list hp
  have hl := pl.isList
  have hlt : p < s.heap.objs.size := by obtain ⟨_, e, _⟩ := hl; exact Heap.lt_size e
  refine call_any_walk (wpAny_pyIter_list hl ?_)
  refine ⟨s.heap.objs.size, [s.heap.objs.size, p], [s.heap.objs.size], its.toArray.size, _, _, fun i => (bs[i]?).getD false, rfl, Walks.list (A := X.A.in1) (I.ok.hd hc) _ p (Nat.ne_of_lt hlt) its.toArray,
    ⟨⟨_, Heap.get?_push_size _ rfl, rfl, rfl⟩, hl.push _⟩, fun i v s' Q' E' hP hQ => ?_, fun h' tk hk => ?_⟩
  · obtain ⟨n, e, rfl⟩ := bools_at rv i v (by simpa using hP)
    simp only [e, Option.getD_some] at hQ
    exact wpAny_truthy_bool hQ
  · have ek : ((List.range its.toArray.size).any fun i => (bs[i]?).getD false) = bs.any id := by
      have := vals_len rv
      rw [List.length_map] at this
      rw [List.size_toArray, this]
      exact range_anyB bs
    rw [ek]
    exact ⟨.bl _, H, I.kept fun b o e => hk b o (fun hm => by rw [List.mem_singleton.mp hm] at e; exact Nat.lt_irrefl _ (Heap.lt_size e)) (Heap.get?_push_of_some _ e), rfl, q⟩
end
end L2
namespace ST
open PySem L2 FM
inductive Kd
  | let' | put (p : F2.Fm) (m : Int) | fold (f : Str) (m : Int) | run (f : Str)
structure StepD where
  target : Int
  value : F2.Fm
  test : Option F2.Fm
  kind : Kd
def joinR (f : Str) (a b : Int) : Int :=
  if f = "sum" then kept (a + b) else if f = "product" then kept (a * b) else if f = "least" then (if b < a then b else a) else if f = "most" then (if b > a then b else a)
  else if f = "both" then Builtin.bitAnd a b else if f = "either" then Builtin.bitOr a b else if f = "odd" then Builtin.bitXor a b
  else if f = "chain" then kept (a * 31 + b) else (if a + b > 1000000000 then 1000000000 else if a + b < -1000000000 then -1000000000 else a + b)
def folds : List Str := ["sum", "product", "least", "most", "both", "either", "odd", "chain", "capped"]
inductive RB | b (v : Bool) | no (e : Res)
inductive El | skip | lay (j n : Int) | no (e : Res)
def passOf (fs : List F2.Fn) (k : Nat) (S : SpotD) (L : StepD) : RB := match L.test with
  | none => .b false
  | some F => match F2.worth fs k S F with
    | .ok a => .b (decide (a = 0))
    | e => .no e
def numOf (S : SpotD) (L : StepD) (rv : Option Int) (n : Int) : Int := match L.kind with
  | .fold f _ => joinR f (S.cellAt L.target 0) n
  | .run f => (match rv with
    | some r => joinR f r n
    | none => n)
  | _ => n
def placeOf (fs : List F2.Fn) (k : Nat) (S : SpotD) (L : StepD) : Res := match L.kind with
  | .fold _ _ => .ok 0
  | .put p _ => (match F2.worth fs k S p with
    | .ok q => if 0 ≤ q ∧ q < S.len L.target then .ok q else .outside
    | e => e)
  | _ => .ok S.place
def elOf (fs : List F2.Fn) (k : Nat) (S : SpotD) (L : StepD) (rv : Option Int) : El := match passOf fs k S L with
  | .b true => .skip
  | .b false => (match F2.worth fs k S L.value with
    | .ok n => (match placeOf fs k S L with
      | .ok j => .lay j (numOf S L rv n)
      | e => .no e)
    | e => .no e)
  | .no e => .no e
def manyOf (lens : List Int) (L : StepD) : Int := match L.kind with
  | .put _ m => m
  | .fold _ m => m
  | _ => lens.getD L.target.toNat 0
def startOf (lens : List Int) (t : Int) : Int := (lens.take t.toNat).sum
def runS (fs : List F2.Fn) (k : Nat) (lens : List Int) (L : StepD) : Nat → Nat → Option Int → List Int → List Int × Option (Nat × Res)
  | 0, _, _, cs => (cs, none)
  | n + 1, p, rv, cs => match elOf fs k ⟨lens, cs, p, []⟩ L rv with
    | .skip => runS fs k lens L n (p + 1) rv cs
    | .lay j v => runS fs k lens L n (p + 1) (some v) (cs.set (startOf lens L.target + j).toNat v)
    | .no e => (cs, some (p, e))
end ST
namespace ST
open PySem L2 FM
structure Scs where
  let_ : Addr
  put : Addr
  fold : Addr
  run : Addr
  till : Addr
  step : Addr
def Scs.of (q : Scs) : Kd → Addr
  | .let' => q.let_
  | .put _ _ => q.put
  | .fold _ _ => q.fold
  | .run _ => q.run
def isF : Kd → Bool
  | .fold _ _ => true
  | _ => false
def isR : Kd → Bool
  | .run _ => true
  | _ => false
def isP : Kd → Bool
  | .put _ _ => true
  | _ => false
def fieldsOf (L : StepD) (v p : Addr) (t : V) : List (Str × V) := match L.kind with
  | .let' => [("target", .int L.target), ("value", .ref v), ("test", t)]
  | .put _ m => [("target", .int L.target), ("value", .ref v), ("place", .ref p), ("many", .int m), ("test", t)]
  | .fold f m => [("target", .int L.target), ("fold", .str f), ("value", .ref v), ("many", .int m), ("test", t)]
  | .run f => [("target", .int L.target), ("fold", .str f), ("value", .ref v), ("test", t)]
theorem fld_target {L : StepD} {v p : Addr} {t : V} : (fieldsOf L v p t).lookup ("target" : Str) = some (.int L.target) := by
  unfold fieldsOf; cases L.kind <;> rfl
theorem fld_value {L : StepD} {v p : Addr} {t : V} : (fieldsOf L v p t).lookup ("value" : Str) = some (.ref v) := by
  unfold fieldsOf; cases L.kind <;> rfl
theorem fld_test {L : StepD} {v p : Addr} {t : V} : (fieldsOf L v p t).lookup ("test" : Str) = some t := by
  unfold fieldsOf; cases L.kind <;> rfl
theorem fld_many_of {L : StepD} {v p : Addr} {t : V} : (fieldsOf L v p t).lookup ("many_of" : Str) = none := by
  unfold fieldsOf; cases L.kind <;> rfl
structure StepAt (c : F2.Cs) (q : Scs) (H : Hp) (L : StepD) (x : Addr) : Prop where
  ex : ∃ dx v p t, H x = some (.ins (q.of L.kind) dx (fieldsOf L v p t)) ∧ F2.FormAt c H L.value v ∧ (match L.test with
    | none => t = .non
    | some F => ∃ u, t = .ref u ∧ F2.FormAt c H F u) ∧ ∀ F m, L.kind = .put F m → F2.FormAt c H F p
theorem StepAt.same {c : F2.Cs} {q : Scs} {H H' : Hp} {L : StepD} {x : Addr} (h : StepAt c q H L x) (s : Same H H') : StepAt c q H' L x := by
  obtain ⟨dx, v, p, t, a, b, d, e⟩ := h.ex
  refine ⟨dx, v, p, t, s _ _ a, b.same s, ?_, fun F m z => (e F m z).same s⟩
  cases y : L.test with
  | none => rw [y] at d; exact d
  | some F => rw [y] at d; obtain ⟨u, d1, d2⟩ := d; exact ⟨u, d1, d2.same s⟩
structure StepW (P : Program) (w : World) (K : PySem.W.Frag) (mg : Str → Option Value) (base : Heap) (c : F2.Cs) (CN OU : Addr) (rm : Nat) (fs : List F2.Fn) (k : Nat) (L : StepD) : Prop where
  v : F2.Worth P w K mg base c CN OU rm fs k L.value
  t : ∀ F, L.test = some F → F2.Worth P w K mg base c CN OU rm fs k F
  p : ∀ F m, L.kind = .put F m → F2.Worth P w K mg base c CN OU rm fs k F
structure StepF (fs : List F2.Fn) (k : Nat) (S : SpotD) (L : StepD) : Prop where
  v : F2.WF fs k S L.value
  t : ∀ F, L.test = some F → F2.WF fs k S F
  p : ∀ F m, L.kind = .put F m → F2.WF fs k S F
def OutB (CN OU : Addr) (r : RB) (H : Hp) (Q : VK) (E : XK) : Prop := ∀ H', Same H H' → match r with
  | .b v => Q (.bl v) H'
  | .no .nought => E (.ref CN) none H'
  | .no .outside => E (.ref OU) none H'
  | .no (.ok _) => True
def rvV : Option Int → V
  | none => .non
  | some r => .int r
structure ElOk (fs : List F2.Fn) (k : Nat) (S : SpotD) (L : StepD) (rv : Option Int) : Prop where
  has : S.has L.target
  pl : (L.kind = .let' ∨ ∃ f, L.kind = .run f) → 0 ≤ S.place ∧ S.place < S.len L.target
  fo : ∀ f m, L.kind = .fold f m → f ∈ folds ∧ 0 < S.len L.target
  ru : ∀ f, L.kind = .run f → f ∈ folds
  rk : ∀ r, rv = some r → Kin r
  wf : StepF fs k S L
def kindS : Res → Str
  | .nought => "nought"
  | .outside => "outside"
  | .ok _ => ""
structure StepOk (fs : List F2.Fn) (k : Nat) (lens : List Int) (L : StepD) : Prop where
  t0 : 0 ≤ L.target
  t1 : L.target.toNat < lens.length
  nn : ∀ v ∈ lens, 0 ≤ v
  le : ∀ v ∈ lens, v ≤ 400
  m0 : 0 ≤ manyOf lens L
  m1 : manyOf lens L ≤ 400
  fo : ∀ f m, L.kind = .fold f m → f ∈ folds ∧ 0 < lens.getD L.target.toNat 0
  ru : ∀ f, L.kind = .run f → f ∈ folds
  hb : F2.Bodies fs
  wf : ∀ (cs : List Int) (p : Nat), (p : Int) < manyOf lens L → (cs.length : Int) = lens.sum → (∀ v ∈ cs, Kin v) → StepF fs k ⟨lens, cs, p, []⟩ L
structure CellsOk (lens cs : List Int) : Prop where
  len : (cs.length : Int) = lens.sum
  kin : ∀ v ∈ cs, Kin v
theorem CellsOk.set {lens cs : List Int} {j : Nat} {v : Int} (h : CellsOk lens cs) (hv : Kin v) : CellsOk lens (cs.set j v) := ⟨by rw [List.length_set]; exact h.len, fun x hx => by
  rcases List.mem_or_eq_of_mem_set hx with y | y
  · exact h.kin x y
  · rw [y]; exact hv⟩
end ST
namespace F2
open PySem L2
mutual
def tot (own : Fm → Int) : Fm → Int
  | .num n => own (.num n)
  | .here => own .here
  | .cell r => own (.cell r)
  | .shi r b o => own (.shi r b o)
  | .loc a => own (.loc a)
  | .at' r p => own (.at' r p) + tot own p
  | .pair s l r => own (.pair s l r) + (tot own l + tot own r)
  | .cho t l r => own (.cho t l r) + (tot own t + (tot own l + tot own r))
  | .call a hs => own (.call a hs) + totL own hs
def totL (own : Fm → Int) : Fms → Int
  | .nil => 0
  | .cons f r => tot own f + totL own r
end
theorem totL_eq {own : Fm → Int} : ∀ {hs : Fms}, totL own hs = (hs.toL.map (tot own)).sum
  | .nil => by unfold totL; rfl
  | .cons f r => by unfold totL; rw [totL_eq (hs := r)]; rfl
theorem tot_eq {own : Fm → Int} (F : Fm) : tot own F = own F + ((partsF F).map (tot own)).sum := by
  cases F with
  | num n => unfold tot; exact (Int.add_zero _).symm
  | here => unfold tot; exact (Int.add_zero _).symm
  | cell n => unfold tot; exact (Int.add_zero _).symm
  | shi _ _ _ => unfold tot; exact (Int.add_zero _).symm
  | loc n => unfold tot; exact (Int.add_zero _).symm
  | at' r p => unfold tot; show _ = _ + (tot own p + 0); omega
  | pair s l r => unfold tot; show _ = _ + (tot own l + (tot own r + 0)); omega
  | cho t l r => unfold tot; show _ = _ + (tot own t + (tot own l + (tot own r + 0))); omega
  | call a hs => unfold tot; rw [totL_eq]; rfl
def nameOf : Fm → Option (Bool × Int)
  | .cell r => some (true, r)
  | .shi r _ _ => some (false, r)
  | .at' r _ => some (false, r)
  | _ => none
def ownN (f : Bool × Int → Bool) (F : Fm) : Int := match nameOf F with
  | some q => if f q then 1 else 0
  | none => 0
theorem ownN_nn {f : Bool × Int → Bool} (F : Fm) : 0 ≤ ownN f F := by
  unfold ownN; split
  · split <;> decide
  · decide
def hit (f : Bool × Int → Bool) (F : Fm) : Bool := decide (0 < tot (ownN f) F)
theorem sum_nn : ∀ {l : List Int}, (∀ x ∈ l, 0 ≤ x) → 0 ≤ l.sum
  | [], _ => Int.le_refl _
  | a :: t, h => by
    have := sum_nn (l := t) fun x hx => h x (List.mem_cons_of_mem _ hx)
    have := h a List.mem_cons_self
    rw [List.sum_cons]; omega
theorem sum_pos : ∀ {l : List Int}, (∀ x ∈ l, 0 ≤ x) → ∀ {a : Int}, a ∈ l → 0 < a → 0 < l.sum
  | [], _, _, m, _ => nomatch m
  | b :: t, h, a, m, p => by
    have n := sum_nn (l := t) fun x hx => h x (List.mem_cons_of_mem _ hx)
    have nb := h b List.mem_cons_self
    rw [List.sum_cons]
    rcases List.mem_cons.mp m with rfl | m
    · omega
    · have := sum_pos (fun x hx => h x (List.mem_cons_of_mem _ hx)) m p
      omega
theorem sum_zero : ∀ {l : List Int}, (∀ x ∈ l, x = 0) → l.sum = 0
  | [], _ => rfl
  | a :: t, h => by rw [List.sum_cons, h a List.mem_cons_self, sum_zero fun x hx => h x (List.mem_cons_of_mem _ hx)]; rfl
mutual
def RI (n : Nat) : Fm → Prop
  | .num _ => True
  | .here => True
  | .cell r => 0 ≤ r ∧ r.toNat < n
  | .shi _ _ _ => True
  | .loc _ => True
  | .at' _ p => RI n p
  | .pair _ l r => RI n l ∧ RI n r
  | .cho t l r => RI n t ∧ RI n l ∧ RI n r
  | .call _ hs => RIs n hs
def RIs (n : Nat) : Fms → Prop
  | .nil => True
  | .cons f r => RI n f ∧ RIs n r
end
theorem RIs.all {n : Nat} : ∀ {gs : Fms}, RIs n gs → ∀ g ∈ gs.toL, RI n g
  | .nil, _, _, m => nomatch m
  | .cons f r, h, g, m => by
    unfold RIs at h
    rcases List.mem_cons.mp m with rfl | m
    · exact h.1
    · exact RIs.all h.2 g m
theorem RI.parts {n : Nat} (F : Fm) (h : RI n F) : ∀ g ∈ partsF F, RI n g := by
  intro g m
  cases F with
  | at' r p => unfold RI at h; cases List.mem_singleton.mp m; exact h
  | pair s l r =>
    unfold RI at h
    rcases List.mem_cons.mp m with rfl | m
    · exact h.1
    · cases List.mem_singleton.mp m; exact h.2
  | cho t l r =>
    unfold RI at h
    rcases List.mem_cons.mp m with rfl | m
    · exact h.1
    · rcases List.mem_cons.mp m with rfl | m
      · exact h.2.1
      · cases List.mem_singleton.mp m; exact h.2.2
  | call a hs => unfold RI at h; exact h.all g m
  | num _ => cases m
  | here => cases m
  | cell _ => cases m
  | shi _ _ _ => cases m
  | loc _ => cases m
def isShi : Fm → Bool
  | .shi _ _ _ => true
  | _ => false
def isCell : Fm → Bool
  | .cell _ => true
  | _ => false
end F2
namespace ST
open PySem L2 FM
def placeL : Kd → List F2.Fm
  | .put p _ => [p]
  | _ => []
def formsOfS (L : StepD) : List F2.Fm := [L.value] ++ placeL L.kind ++ L.test.toList
theorem formsOfS_len (L : StepD) : (formsOfS L).length ≤ 3 := by
  obtain ⟨a, b, t, k⟩ := L
  cases k <;> cases t <;> simp [formsOfS, placeL]
def fU (lens : List Int) (many : Int) : Bool × Int → Bool := fun q => q.1 && (!decide (lens.getD q.2.toNat 0 = many) && !decide (lens.getD q.2.toNat 0 = 1))
def fX (pf : Bool) (tgt : Int) : Bool × Int → Bool := fun q => decide (q.2 = tgt) && (!q.1 || pf)
def unevenS (lens : List Int) (L : StepD) : Bool := (isF L.kind && !decide (lens.getD L.target.toNat 0 = 1)) || (formsOfS L).any (F2.hit (fU lens (manyOf lens L)))
def crossS (L : StepD) : Bool := (formsOfS L).any (F2.hit (fX (isP L.kind || isF L.kind) L.target))
end ST
namespace K20
open PySem L2 FM ST
structure KAny (K : PySem.W.Frag) (C : Addr) : Prop where
  cl : Cls K C
  k1 : PySem.W.findIn K (.ref C) "__class__" = some (some (.builtin "object.__class__"))
  k2 : PySem.W.specialIn K (.builtin "object.__class__") "__get__" = some (some (.builtin "getset_descriptor.__get__"))
  k3 : PySem.W.takesIn K (.builtin "object.__class__") = some true
  k4 : PySem.W.mroIn K C (.type "object") = some true
theorem KAny.ty {K : PySem.W.Frag} {C : Addr} (s : KAny K C) {H : Hp} {x dx : Addr} {fl : List (Str × V)} (h : H x = some (.ins C dx fl)) : TyOf K H (.ref x) (.ref C) := .ins h s.cl s.k1 s.k2 s.k3 s.k4
structure KStep (K : PySem.W.Frag) (q : Scs) (C : Addr) (bT bP bF : Bool) : Prop extends KAny K C where
  t : PySem.W.kitOne K (.ref C) (.ref q.till) = some bT
  p : PySem.W.kitOne K (.ref C) (.ref q.put) = some bP
  f : PySem.W.kitOne K (.ref C) (.ref q.fold) = some bF
structure KPart (K : PySem.W.Frag) (c : F2.Cs) (C : Addr) (bC bS bA : Bool) : Prop extends KAny K C where
  ce : PySem.W.kitOne K (.ref C) (.ref c.cell) = some bC
  sh : PySem.W.kitOne K (.ref C) (.ref c.shi) = some bS
  at' : PySem.W.kitOne K (.ref C) (.ref c.at') = some bA
theorem kitAny2 {K : PySem.W.Frag} {t a b : Value} {x y : Bool} (h1 : PySem.W.kitOne K t a = some x) (h2 : PySem.W.kitOne K t b = some y) : PySem.W.kitAny K t [a, b] = some (x || y) := by
  unfold PySem.W.kitAny
  rw [h1]
  cases x with
  | true => rfl
  | false =>
    unfold PySem.W.kitAny
    show (match PySem.W.kitOne K t b with | some true => some true | some false => _ | none => none) = _
    rw [h2]
    cases y <;> rfl
structure LooksS (K : PySem.W.Frag) (mg : Str → Option Value) (c : F2.Cs) (q : Scs) : Prop where
  st : ∀ k, KStep K q (q.of k) false (isP k) (isF k)
  till : KStep K q q.till true false false
  nv : ∀ k, NoAttr K (q.of k) "value"
  nt : ∀ k, NoAttr K (q.of k) "test"
  ng : ∀ k, NoAttr K (q.of k) "target"
  np : NoAttr K q.put "place"
  pa : ∀ F, KPart K c (F2.clsOf c F) (F2.isCell F) (F2.isShi F) (F2.isAt F)
  rc : NoAttr K c.cell "row"
  rs : NoAttr K c.shi "row"
  ra : NoAttr K c.at' "row"
  hAt : mg "At" = some (.ref c.at')
  hCe : mg "Cell" = some (.ref c.cell)
  hSh : mg "Shifted" = some (.ref c.shi)
  hPu : mg "Put" = some (.ref q.put)
  hFo : mg "Fold" = some (.ref q.fold)
  hTi : mg "Till" = some (.ref q.till)
theorem clsAt {c : F2.Cs} {H : Hp} {F : F2.Fm} {x : Addr} (h : F2.FormAt c H F x) : ∃ dx fl, H x = some (.ins (F2.clsOf c F) dx fl) ∧ ∀ r, F2.nameOf F = some r → fl.lookup ("row" : Str) = some (.int r.2) := by
  cases F with
  | num n => obtain ⟨dx, h⟩ := h; exact ⟨dx, _, h, fun r e => by cases e⟩
  | here => obtain ⟨dx, h⟩ := h; exact ⟨dx, _, h, fun r e => by cases e⟩
  | cell n => obtain ⟨dx, h⟩ := h; exact ⟨dx, _, h, fun r e => by cases e; rfl⟩
  | shi _ _ _ => obtain ⟨dx, h⟩ := h; exact ⟨dx, _, h, fun r e => by cases e; rfl⟩
  | loc n => obtain ⟨dx, h⟩ := h; exact ⟨dx, _, h, fun r e => by cases e⟩
  | at' r p => obtain ⟨dx, y, h, _⟩ := h; exact ⟨dx, _, h, fun r e => by cases e; rfl⟩
  | pair s l r => obtain ⟨dx, y, z, h, _⟩ := h; exact ⟨dx, _, h, fun r e => by cases e⟩
  | cho t l r => obtain ⟨dx, u, y, z, h, _⟩ := h; exact ⟨dx, _, h, fun r e => by cases e⟩
  | call a gs => obtain ⟨dx, l, ys, h, _⟩ := h; exact ⟨dx, _, h, fun r e => by cases e⟩
section
variable {P : Program} {w : World} {K : PySem.W.Frag} {mg : Str → Option Value} {base : Heap}
def spFormsOf (c : F2.Cs) (q : Scs) : Sp := fun vs H Q _ => ∃ (x : Addr) (L : StepD), vs = [.ref x] ∧ StepAt c q H L x ∧ ∀ H' l (Ps : List (F2.Fm × Addr)), Hd H [(l, .lst (Ps.map fun p => V.ref p.2))] H' → Ps.map Prod.fst = formsOfS L → (∀ p ∈ Ps, F2.FormAt c H p.1 p.2) → Q (.ref l) H'
theorem ok_formsOf {c : F2.Cs} {q : Scs} (d : DefIn K mg "forms_of" s_forms_of ["step"]) (hisi : mg "isinstance" = none) (G : LooksS K mg c q) : Ok P w K mg base (CXe P w base) 1 "forms_of" ["step"] (spFormsOf c q) := by
  obtain ⟨g, fd, m, F, b⟩ := d
  refine ⟨g, fd, m, F.kp, b, F.okE sc_forms_of (fun vs H Q E ⟨_, _, e, _⟩ => by rw [e]; rfl) fun cdv A outer s H vs Q E hr h => ?_⟩
  obtain ⟨x, L, rfl, hx, k⟩ := h
  have nd := sc_forms_of.nd
  obtain ⟨dx, v, p, t, ex, fv, ft, fp⟩ := hx.ex
  have S := G.st L.kind
  refine ⟨_, (pss_cons (ps_set (i := 1) nd rfl (Or.inl rfl) (pe_lst (pa_cons (pe_fld (pv 0) rfl) pa_nil)))
      (pss_cons (ps_mid (ps_if (pt_val (pe_callB call_isinst (by rfl) hisi PyProof.Rows.boot_isinstance (pa_cons (pv 0) (pa_cons (pe_gref G.hPu) pa_nil)))) (pss_one (ps_expr (pe_bm PySem.F.plainAttrs_list PySem.F.slot_list_append PySem.F.type_list_append mt_append (pv 1) (pa_cons (pe_fld (pv 0) rfl) pa_nil)))) pss_nil))
      (pss_cons (ps_if (pt_cmpR op_notN (pe_fld (pv 0) rfl) pe_non (nomark _)) (pss_one (ps_expr (pe_bm PySem.F.plainAttrs_list PySem.F.slot_list_append PySem.F.type_list_append mt_append (pv 1) (pa_cons (pe_fld (pv 0) rfl) pa_nil)))) pss_nil)
      (pss_one (ps_ret (pv 1)))))), ?_⟩
  refine ⟨_, rfl, x, _, dx, _, .ref v, rfl, ex, S.cl, G.nv _, fld_value, (by show 1 ≤ sizeLine; decide), fun l nl => ?_⟩
  have h0 : Hd H [(l, .lst (([(L.value, v)] : List (F2.Fm × Addr)).map fun p => V.ref p.2))] (upd H l (.lst [.ref v])) := Hd.base.new nl
  generalize upd H l (.lst [.ref v]) = H1 at h0 ⊢
  refine ⟨fun σ' H' => σ' = [some (.ref x), some (.ref l)] ∧ ∃ Ps : List (F2.Fm × Addr), Hd H [(l, .lst (Ps.map fun p => V.ref p.2))] H' ∧ Ps.map Prod.fst = [L.value] ++ placeL L.kind ∧ (∀ p ∈ Ps, F2.FormAt c H p.1 p.2) ∧ Ps.length ≤ 2, ?_, ?_⟩
  · refine ⟨_, rfl, _, _, .ref q.put, _, isP L.kind, rfl, rfl, (fun u r => r), .inl (S.ty (h0.sm _ _ ex)), S.p, isP L.kind, rfl, ?_⟩
    cases hk : L.kind with
    | put pf mm =>
      refine iteT ?_
      rw [hk] at ex
      refine ⟨_, rfl, .inl ⟨rfl, _, h0.lst 0 rfl⟩, _, rfl, x, _, dx, _, .ref p, rfl, h0.sm _ _ ex, (hk ▸ S).cl, G.np, (by unfold ST.fieldsOf; rw [hk]; rfl), l, _, _, rfl, rfl, h0.get 0 rfl, (by show 1 < sizeLine; decide), ?_⟩
      have h1 := h0.put (o' := .lst (([(L.value, v), (pf, p)] : List (F2.Fm × Addr)).map fun p => V.ref p.2)) 0 rfl
      exact ⟨rfl, [(L.value, v), (pf, p)], h1, rfl, fun r hr => by
        rcases List.mem_cons.mp hr with rfl | hr
        · exact fv
        · cases List.mem_singleton.mp hr; exact fp _ _ hk, Nat.le_refl 2⟩
    | let' => exact iteF ⟨rfl, _, h0, rfl, fun r hr => by cases List.mem_singleton.mp hr; exact fv, (by show 1 ≤ 2; decide)⟩
    | fold _ _ => exact iteF ⟨rfl, _, h0, rfl, fun r hr => by cases List.mem_singleton.mp hr; exact fv, (by show 1 ≤ 2; decide)⟩
    | run _ => exact iteF ⟨rfl, _, h0, rfl, fun r hr => by cases List.mem_singleton.mp hr; exact fv, (by show 1 ≤ 2; decide)⟩
  rintro σ' H' ⟨rfl, Ps, h, hm, hA, hl⟩
  refine ⟨_, rfl, x, _, dx, _, t, rfl, h.sm _ _ ex, S.cl, G.nt _, fld_test, rfl, _, rfl, ?_⟩
  cases ht : L.test with
  | none =>
    rw [ht] at ft
    cases ft
    refine ite2 (fun z => absurd z (by decide)) (fun z => ⟨_, rfl, k H' l Ps h (by rw [hm]; unfold formsOfS; rw [ht]; simp) hA⟩)
  | some tf =>
    rw [ht] at ft
    obtain ⟨u, rfl, fu⟩ := ft
    refine ite2 (fun z => ?_) (fun z => absurd (show (true : Bool) = true from rfl) z)
    refine ⟨_, rfl, .inl ⟨rfl, _, h.lst 0 rfl⟩, _, rfl, x, _, dx, _, .ref u, rfl, h.sm _ _ ex, S.cl, G.nt _, fld_test, l, _, _, rfl, rfl, h.get 0 rfl, (by rw [List.length_map]; exact Nat.lt_of_le_of_lt hl (by decide)), ?_⟩
    have h1 := h.put (o' := .lst ((Ps ++ [(tf, u)]).map fun p => V.ref p.2)) 0 rfl
    have h1 : Hd H [(l, .lst ((Ps ++ [(tf, u)]).map fun p => V.ref p.2))] _ := h1
    rw [List.map_append] at h1
    refine ⟨_, rfl, k _ l (Ps ++ [(tf, u)]) (by rw [List.map_append]; exact h1) (by rw [List.map_append, hm]; unfold formsOfS; rw [ht]; rfl) fun r hr => ?_⟩
    rcases List.mem_append.mp hr with hr | hr
    · exact hA r hr
    · cases List.mem_singleton.mp hr; exact fu
end
end K20
namespace K20
open PySem L2 FM ST
theorem intEq (a b : Int) : decide (V.int a = V.int b) = decide (a = b) := by
  by_cases h : a = b
  · subst h; rw [decide_eq_true rfl, decide_eq_true rfl]
  · rw [decide_eq_false h, decide_eq_false fun q => h (V.int.inj q)]
theorem hit_of {Ps : List (F2.Fm × Addr)} {F : F2.Fm} {f : Bool × Int → Bool} (hs : SumP Ps F) {p : F2.Fm × Addr} (m : p ∈ Ps) (h : F2.ownN f p.1 = 1) : F2.hit f F = true := by
  refine decide_eq_true ?_
  rw [← hs (F2.ownN f) (F2.tot (F2.ownN f)) fun G => F2.tot_eq G]
  refine F2.sum_pos (fun x hx => ?_) (List.mem_map_of_mem (f := fun p => F2.ownN f p.1) m) (by rw [h]; decide)
  obtain ⟨r, _, rfl⟩ := List.mem_map.mp hx
  exact F2.ownN_nn _
theorem hit_no {Ps : List (F2.Fm × Addr)} {F : F2.Fm} {f : Bool × Int → Bool} (hs : SumP Ps F) (h : ∀ p ∈ Ps, F2.ownN f p.1 = 0) : F2.hit f F = false := by
  refine decide_eq_false ?_
  rw [← hs (F2.ownN f) (F2.tot (F2.ownN f)) fun G => F2.tot_eq G, F2.sum_zero fun x hx => ?_]
  · exact Int.lt_irrefl _
  · obtain ⟨r, m, rfl⟩ := List.mem_map.mp hx
    exact h r m
theorem inV2 (a b d : Int) : inV (.int a) [.int b, .int d] = (decide (a = b) || decide (a = d)) := by
  show (eqV (.int b) (.int a) || (eqV (.int d) (.int a) || false)) = _
  have e : ∀ x y : Int, eqV (.int x) (.int y) = decide (y = x) := fun x y => by
    by_cases z : x = y
    · subst z; simp [eqV]
    · have z' : ¬ y = x := fun q => z q.symm
      simp [eqV, z, z']
  rw [e, e, Bool.or_false]
theorem list_at {α : Type} {l : List α} {g : α → V} {i : Nat} {x : V} (h : (l.map g)[i]? = some x) : ∃ p, l[i]? = some p ∧ x = g p := by
  rw [List.getElem?_map] at h
  cases e : l[i]? with
  | none => rw [e] at h; cases h
  | some z => rw [e] at h; exact ⟨z, rfl, by injection h with h; exact h.symm⟩
section
variable {P : Program} {w : World} {K : PySem.W.Frag} {mg : Str → Option Value} {base : Heap}
def spUF (c : F2.Cs) (K : PySem.W.Frag) : Sp := fun vs H Q _ => ∃ (x l : Addr) (many : Int) (F : F2.Fm) (lens : List Int), vs = [.ref x, .ref l, .int many] ∧ F2.FormAt c H F x ∧ F2.nodes F ≤ 2000 ∧ F2.RI lens.length F ∧ SqL K H l (lens.map V.int) ∧ ∀ H', Same H H' → Q (.bl (F2.hit (fU lens many) F)) H'
theorem ok_uf {c : F2.Cs} {q : Scs} (d : DefIn K mg "is_uneven_form" s_is_uneven_form ["form", "lengths", "many"]) (hisi : mg "isinstance" = none) (G : LooksS K mg c q) (WI : Ok P w K mg base CX0 2 "forms_within" ["form"] (spWithin c)) : Ok P w K mg base CX0 3 "is_uneven_form" ["form", "lengths", "many"] (spUF c K) := by
  obtain ⟨g, fd, m, F, b⟩ := d
  refine ⟨g, fd, m, F.kp, b, F.ok sc_is_uneven_form (fun vs H Q E ⟨_, _, _, _, _, e, _⟩ => by rw [e]; rfl) fun cdv A outer s H vs Q E hr h => ?_⟩
  obtain ⟨x, l, many, F, lens, rfl, hx, hn, hR, hl, k⟩ := h
  have nd := sc_is_uneven_form.nd
  have hr2 := hr
  refine ⟨_, (pss_cons (ps_for PassesOwn.never rfl (pi_list (pe_ok WI hr2 (by rfl) pass0 (pa_cons (pv 0) pa_nil))) (pg_name (i := 3) nd rfl (Or.inl rfl)) (pss_one (ps_if (pw_and (pt_val (pe_callB call_isinst (by rfl) hisi PyProof.Rows.boot_isinstance (pa_cons (pv 3) (pa_cons (pe_gref G.hCe) pa_nil)))) (pw_and1 (pt_cmpR op_notIn_seq (pe_ix ix_list (pv 1) (pe_fld (pv 3) rfl) (fun _ _ => rfl)) (pe_tup (pa_cons (pv 2) (pa_cons pe_int pa_nil))) rfl))).pt (pss_one (ps_ret pe_bl)) pss_nil)))
      (pss_one (ps_ret pe_bl))), ?_⟩
  refine ⟨_, rfl, x, F, H, rfl, Same.refl _, hx, hn, fun H1 fw Ps h1 hA hl1 hs hh => ?_⟩
  refine ⟨fw, rfl, ⟨_, h1.lst 0 rfl⟩, ?_⟩
  refine for_list (K := K) (a := fw) (xs := Ps.map fun p => V.ref p.2) (fun i σ J => ∃ u3, σ = [some (.ref x), some (.ref l), some (.int many), u3] ∧ Same H1 J ∧ ∀ p ∈ Ps.take i, F2.ownN (fU lens many) p.1 = 0) ⟨none, rfl, Same.refl _, fun p hp => nomatch hp⟩ (fun i σ J _ ⟨_, _, s, _⟩ => SqL.of (s _ _ (h1.get 0 rfl))) ?_ ?_
  · rintro i y σ J hy ⟨u3, rfl, sJ, hz⟩
    obtain ⟨p, hp, rfl⟩ := list_at hy
    have mp := List.mem_of_getElem? hp
    have sH := h1.sm.trans sJ
    obtain ⟨dx, fl, ex, er⟩ := clsAt ((hA p mp).same sH)
    have S := G.pa p.1
    have next : F2.ownN (fU lens many) p.1 = 0 → ∀ r ∈ Ps.take (i + 1), F2.ownN (fU lens many) r.1 = 0 := fun e r hr => by
      rw [List.take_add_one, hp] at hr
      rcases List.mem_append.mp hr with hr | hr
      · exact hz r hr
      · cases List.mem_singleton.mp hr; exact e
    refine ⟨_, rfl, _, _, .ref c.cell, _, F2.isCell p.1, rfl, rfl, (fun u r => r), .inl (S.ty ex), S.ce, F2.isCell p.1, rfl, ?_⟩
    cases ec : F2.isCell p.1 with
    | false =>
      refine iteF (iteF ⟨_, rfl, sJ, next ?_⟩)
      unfold F2.ownN fU
      cases e : p.1 with
      | cell r => rw [e] at ec; cases ec
      | _ => rfl
    | true =>
      refine iteT ?_
      obtain ⟨r, e⟩ : ∃ r, p.1 = .cell r := by
        cases e : p.1 with
        | cell r => exact ⟨r, rfl⟩
        | _ => rw [e] at ec; cases ec
      have hri : F2.RI lens.length p.1 := hh (F2.RI lens.length) (fun G h g hg => F2.RI.parts G h g hg) hR p mp
      rw [e] at ex hri
      unfold F2.RI at hri
      have el : fl.lookup ("row" : Str) = some (.int r) := er (true, r) (by rw [e]; rfl)
      refine ⟨_, rfl, _, rfl, p.2, _, dx, fl, .int r, rfl, ex, (e ▸ S).cl, G.rc, el, l, _, _, _, rfl, rfl, sql_same hl sH, at_int r.toNat hri.2 (by omega), _, rfl, (by show 2 ≤ sizeLine; decide), fun tp ntp => ?_⟩
      have st := same_upd (o := .tup [.int many, .int 1]) (Same.refl J) ntp
      refine ⟨tp, [.int many, .int 1], rfl, .inr (SqT.of upd_same), rfl, rfl, _, rfl, ?_⟩
      rw [if_pos rfl, inV2]
      have eo : F2.ownN (fU lens many) p.1 = if (!(decide (lens.getD r.toNat 0 = many) || decide (lens.getD r.toNat 0 = 1))) = true then 1 else 0 := by
        rw [e]
        show (if (true && _) = true then (1 : Int) else 0) = _
        rw [Bool.true_and, Bool.not_or]
      refine ite2 (fun z => ?_) (fun z => ?_)
      · have h1' : F2.hit (fU lens many) F = true := hit_of hs mp (by rw [eo, if_pos z])
        have := k _ (sH.trans st)
        rw [h1'] at this
        exact this
      · exact ⟨_, rfl, sJ.trans st, next (by rw [eo, if_neg z])⟩
  · rintro σ J ⟨u3, rfl, sJ, hz⟩
    rw [List.length_map, List.take_length] at hz
    have := k _ (h1.sm.trans sJ)
    rw [hit_no hs hz] at this
    exact this
structure StepL (n : Nat) (L : StepD) : Prop where
  t0 : 0 ≤ L.target
  t1 : L.target.toNat < n
  f : ∀ F ∈ formsOfS L, F2.nodes F ≤ 2000 ∧ F2.RI n F
def spMany (K : PySem.W.Frag) (q : Scs) (kd : Kd) : Sp := fun vs H Q _ => ∃ (x l dx v p : Addr) (lens : List Int) (L : StepD) (t : V), vs = [.ref x, .ref l] ∧ L.kind = kd ∧ H x = some (.ins (q.of kd) dx (ST.fieldsOf L v p t)) ∧ SqL K H l (lens.map V.int) ∧ 0 ≤ L.target ∧ L.target.toNat < lens.length ∧ Q (.int (manyOf lens L)) H
abbrev ManyK (P : Program) (w : World) (K : PySem.W.Frag) (mg : Str → Option Value) (base : Heap) (q : Scs) : Prop := ∀ kd, DispX P w K mg base (CXe P w base) 1 "many_of" (q.of kd) (spMany K q kd)
theorem many_Let {q : Scs} (d : MethIn K q.let_ "many_of" "Let.many_of" s_Let_many_of ["self", "lengths"]) (cl : Cls K q.let_) (nT : NoAttr K q.let_ "target")  : DispX P w K mg base (CXe P w base) 1 "many_of" (q.of (.let')) (spMany K q (.let')) := by
  obtain ⟨f, fd, m, F, bd⟩ := d
  refine ⟨cl, f, fd, _, m, F.okE sc_Let_many_of (fun vs H Q E ⟨_, _, _, _, _, _, _, _, e, _⟩ => by rw [e]; rfl) fun cdv A outer s H vs Q E hr h => ?_, bd⟩
  obtain ⟨x, l, dx, v, p, lens, L, t, rfl, hk, hx, hl, t0, t1, k⟩ := h
  refine ⟨_, (pss_one (ps_ret (pe_ix ix_list (pv 1) (pe_fld (pv 0) rfl) (fun _ _ => rfl)))), ?_⟩
  have em : manyOf lens L = lens.getD L.target.toNat 0 := by unfold manyOf; rw [hk]
  rw [em] at k
  exact ⟨_, rfl, _, rfl, x, _, dx, _, _, rfl, hx, cl, nT, fld_target, l, _, _, _, rfl, rfl, hl, at_int L.target.toNat t1 (by omega), k⟩
theorem many_Put {q : Scs} (d : MethIn K q.put "many_of" "Put.many_of" s_Put_many_of ["self", "lengths"]) (cl : Cls K q.put) (nM : NoAttr K q.put "many") (pf : F2.Fm) (mm : Int) : DispX P w K mg base (CXe P w base) 1 "many_of" (q.of (.put pf mm)) (spMany K q (.put pf mm)) := by
  obtain ⟨f, fd, m, F, bd⟩ := d
  refine ⟨cl, f, fd, _, m, F.okE sc_Put_many_of (fun vs H Q E ⟨_, _, _, _, _, _, _, _, e, _⟩ => by rw [e]; rfl) fun cdv A outer s H vs Q E hr h => ?_, bd⟩
  obtain ⟨x, l, dx, v, p, lens, L, t, rfl, hk, hx, hl, t0, t1, k⟩ := h
  refine ⟨_, (pss_one (ps_ret (pe_fld (pv 0) rfl))), ?_⟩
  have ef : (ST.fieldsOf L v p t).lookup ("many" : Str) = some (.int (manyOf lens L)) := by unfold ST.fieldsOf manyOf; rw [hk]; rfl
  exact ⟨_, rfl, x, _, dx, _, _, rfl, hx, cl, nM, ef, k⟩
theorem many_Fold {q : Scs} (d : MethIn K q.fold "many_of" "Fold.many_of" s_Fold_many_of ["self", "lengths"]) (cl : Cls K q.fold) (nM : NoAttr K q.fold "many") (ff : Str) (mm : Int) : DispX P w K mg base (CXe P w base) 1 "many_of" (q.of (.fold ff mm)) (spMany K q (.fold ff mm)) := by
  obtain ⟨f, fd, m, F, bd⟩ := d
  refine ⟨cl, f, fd, _, m, F.okE sc_Fold_many_of (fun vs H Q E ⟨_, _, _, _, _, _, _, _, e, _⟩ => by rw [e]; rfl) fun cdv A outer s H vs Q E hr h => ?_, bd⟩
  obtain ⟨x, l, dx, v, p, lens, L, t, rfl, hk, hx, hl, t0, t1, k⟩ := h
  refine ⟨_, (pss_one (ps_ret (pe_fld (pv 0) rfl))), ?_⟩
  have ef : (ST.fieldsOf L v p t).lookup ("many" : Str) = some (.int (manyOf lens L)) := by unfold ST.fieldsOf manyOf; rw [hk]; rfl
  exact ⟨_, rfl, x, _, dx, _, _, rfl, hx, cl, nM, ef, k⟩
theorem many_Running {q : Scs} (d : MethIn K q.run "many_of" "Running.many_of" s_Running_many_of ["self", "lengths"]) (cl : Cls K q.run) (nT : NoAttr K q.run "target") (ff : Str) : DispX P w K mg base (CXe P w base) 1 "many_of" (q.of (.run ff)) (spMany K q (.run ff)) := by
  obtain ⟨f, fd, m, F, bd⟩ := d
  refine ⟨cl, f, fd, _, m, F.okE sc_Running_many_of (fun vs H Q E ⟨_, _, _, _, _, _, _, _, e, _⟩ => by rw [e]; rfl) fun cdv A outer s H vs Q E hr h => ?_, bd⟩
  obtain ⟨x, l, dx, v, p, lens, L, t, rfl, hk, hx, hl, t0, t1, k⟩ := h
  refine ⟨_, (pss_one (ps_ret (pe_ix ix_list (pv 1) (pe_fld (pv 0) rfl) (fun _ _ => rfl)))), ?_⟩
  have em : manyOf lens L = lens.getD L.target.toNat 0 := by unfold manyOf; rw [hk]
  rw [em] at k
  exact ⟨_, rfl, _, rfl, x, _, dx, _, _, rfl, hx, cl, nT, fld_target, l, _, _, _, rfl, rfl, hl, at_int L.target.toNat t1 (by omega), k⟩
def AskAt (c : F2.Cs) (q : Scs) (n : Nat) (H : Hp) (x : Addr) : Option StepD → Prop
  | some L => StepAt c q H L x ∧ StepL n L
  | none => ∃ dx fl, H x = some (.ins q.till dx fl)
def unevO (lens : List Int) : Option StepD → Bool
  | some L => unevenS lens L
  | none => false
def croO : Option StepD → Bool
  | some L => crossS L
  | none => false
theorem AskAt.same {c : F2.Cs} {q : Scs} {n : Nat} {H H' : Hp} {x : Addr} {o : Option StepD} (h : AskAt c q n H x o) (s : Same H H') : AskAt c q n H' x o := by
  cases o with
  | some L => exact ⟨h.1.same s, h.2⟩
  | none => obtain ⟨dx, fl, e⟩ := h; exact ⟨dx, fl, s _ _ e⟩
def spUneven (c : F2.Cs) (q : Scs) (K : PySem.W.Frag) : Sp := fun vs H Q _ => ∃ (x l : Addr) (o : Option StepD) (lens : List Int), vs = [.ref x, .ref l] ∧ AskAt c q lens.length H x o ∧ SqL K H l (lens.map V.int) ∧ ∀ H', Same H H' → Q (.bl (unevO lens o)) H'
theorem ok_uneven {c : F2.Cs} {q : Scs} (d : DefIn K mg "uneven" s_uneven ["step", "lengths"]) (hisi : mg "isinstance" = none) (hany : mg "any" = none) (G : LooksS K mg c q) (FO : Ok P w K mg base (CXe P w base) 1 "forms_of" ["step"] (spFormsOf c q)) (MO : ManyK P w K mg base q) (UF : Ok P w K mg base CX0 3 "is_uneven_form" ["form", "lengths", "many"] (spUF c K)) : Ok P w K mg base CX0 4 "uneven" ["step", "lengths"] (spUneven c q K) := by
  obtain ⟨g, fd, m, F, b⟩ := d
  refine ⟨g, fd, m, F.kp, b, F.ok sc_uneven (fun vs H Q E ⟨_, _, _, _, e, _⟩ => by rw [e]; rfl) fun cdv A outer s H vs Q E hr h => ?_⟩
  obtain ⟨x, l, o, lens, rfl, hx, hl, k⟩ := h
  have nd := sc_uneven.nd
  have hr3 := hr
  have hr1 := hr.mono (show 1 ≤ 3 by decide)
  refine ⟨_, (pss_cons (ps_if (pt_val (pe_callB call_isinst (by rfl) hisi PyProof.Rows.boot_isinstance (pa_cons (pv 0) (pa_cons (pe_gref G.hTi) pa_nil)))) (pss_one (ps_ret pe_bl)) pss_nil)
      (pss_cons (ps_if (pt_mid (pw_and (pt_val (pe_callB call_isinst (by rfl) hisi PyProof.Rows.boot_isinstance (pa_cons (pv 0) (pa_cons (pe_gref G.hFo) pa_nil)))) (pw_and1 (pt_cmpR op_ne (pe_ix ix_list (pv 1) (pe_fld (pv 0) rfl) (fun _ _ => rfl)) pe_int (nomark _)))).pt) (pss_one (ps_ret pe_bl)) pss_nil)
      (pss_cons (ps_set (i := 2) nd rfl (Or.inr rfl) (pe_methX (CX := CXe P w base) hr1 passF (pv 0) (pa_cons (pv 1) pa_nil)))
      (pss_one (ps_ret (pe_callB (call_anyB rfl) (by rfl) hany PyProof.Rows.boot_any (pa_cons (pe_compC ["form", "lengths", "many"] [none, some 1, some 2] rfl rfl rfl (pi_list (pe_ok FO hr1 (by rfl) passF (pa_cons (pv 0) pa_nil))) (fun s3 H3 fp => ⟨pg_name (i := 0) (show ((["form", "lengths", "many"] : List Str)).Nodup by decide +kernel) rfl (Or.inl rfl), (pe_ok UF hr3 (by rfl) pass0 (pa_cons (pv 0) (pa_cons (pv 1) (pa_cons (pv 2) pa_nil))))⟩)) pa_nil))))))), ?_⟩
  cases o with
  | none =>
    obtain ⟨dx, fl, ex⟩ := hx
    exact ⟨_, rfl, _, _, .ref q.till, _, true, rfl, rfl, (fun u r => r), .inl (G.till.ty ex), G.till.t, true, rfl, iteT (k _ (Same.refl _))⟩
  | some L =>
    obtain ⟨hx, hL⟩ := hx
    obtain ⟨dx, v, p, t, ex, fv, ft, fp⟩ := hx.ex
    have S := G.st L.kind
    refine ⟨_, rfl, _, _, .ref q.till, _, false, rfl, rfl, (fun u r => r), .inl (S.ty ex), S.t, false, rfl, iteF ?_⟩
    refine ⟨fun b H' => H' = H ∧ b = (isF L.kind && !decide (lens.getD L.target.toNat 0 = 1)), ?_, ?_⟩
    · refine ⟨_, rfl, _, _, .ref q.fold, _, isF L.kind, rfl, rfl, (fun u r => r), .inl (S.ty ex), S.f, isF L.kind, rfl, ?_⟩
      cases isF L.kind with
      | false => exact iteF ⟨rfl, rfl⟩
      | true =>
        refine iteT ⟨_, rfl, _, rfl, x, _, dx, _, _, rfl, ex, S.cl, G.ng _, fld_target, l, _, _, _, rfl, rfl, hl, at_int L.target.toNat hL.t1 (by have := hL.t0; omega), rfl, _, rfl, rfl, ?_⟩
        rw [intEq, Bool.true_and]
    rintro b H' ⟨rfl, rfl⟩
    refine ite2 (fun z => ?_) (fun z => ?_)
    · have : unevO lens (some L) = true := by show unevenS lens L = true; unfold unevenS; rw [z]; rfl
      rw [this] at k
      exact k _ (Same.refl _)
    · have z : (isF L.kind && !decide (lens.getD L.target.toNat 0 = 1)) = false := by simpa using z
      refine ⟨_, rfl, x, _, dx, _, _, rfl, ex, MO _, fld_many_of, _, rfl, x, l, dx, v, p, lens, L, t, rfl, rfl, ex, hl, hL.t0, hL.t1, ?_⟩
      refine ⟨_, rfl, x, L, rfl, hx, fun H1 fo Ps h1 hm hA => ?_⟩
      refine ⟨fo, rfl, ⟨_, h1.lst 0 rfl⟩, _, rfl, fun D nD => ?_⟩
      have h0 : Hd H1 [(D, .lst (((Ps.take 0).map fun p => F2.hit (fU lens (manyOf lens L)) p.1).map V.bl))] (upd H1 D (.lst [])) := Hd.base.new nD
      have lPs : Ps.length ≤ 3 := by
        have : Ps.length = (formsOfS L).length := by rw [← hm, List.length_map]
        rw [this]; exact formsOfS_len L
      have hLf : ∀ p ∈ Ps, F2.nodes p.1 ≤ 2000 ∧ F2.RI lens.length p.1 := fun p hp => hL.f p.1 (by rw [← hm]; exact List.mem_map_of_mem hp)
      refine comp_list (K := K) (a := fo) (D := D) (xs := Ps.map fun p => V.ref p.2) (fun i σ J => ∃ u, σ = [u, some (.ref l), some (.int (manyOf lens L))] ∧ Hd H1 [(D, .lst (((Ps.take i).map fun p => F2.hit (fU lens (manyOf lens L)) p.1).map V.bl))] J) ⟨none, rfl, h0⟩ (fun i σ J _ ⟨_, _, h⟩ => SqL.of (h.sm _ _ (h1.get 0 rfl))) ?_ ?_
      · clear h0
        rintro i y σ J hy ⟨u, rfl, h⟩
        obtain ⟨p, hp, rfl⟩ := list_at hy
        have mp := List.mem_of_getElem? hp
        have sH := h1.sm.trans h.sm
        refine ⟨_, rfl, _, rfl, _, rfl, p.2, l, _, p.1, lens, rfl, (hA p mp).same sH, (hLf p mp).1, (hLf p mp).2, sql_same hl sH, fun J2 s2 => ?_⟩
        have h2 := h.same s2
        refine ⟨_, h2.get 0 rfl, (by rw [List.length_map, List.length_map, List.length_take]; exact Nat.lt_of_le_of_lt (Nat.le_trans (Nat.min_le_right _ _) lPs) (by decide)), _, rfl, ?_⟩
        have h3 := h2.put (o' := .lst (((Ps.take (i + 1)).map fun p => F2.hit (fU lens (manyOf lens L)) p.1).map V.bl)) 0 rfl
        have e : (((Ps.take (i + 1)).map fun p => F2.hit (fU lens (manyOf lens L)) p.1).map V.bl) = (((Ps.take i).map fun p => F2.hit (fU lens (manyOf lens L)) p.1).map V.bl) ++ [V.bl (F2.hit (fU lens (manyOf lens L)) p.1)] := by
          rw [List.take_add_one, hp, List.map_append, List.map_append]; rfl
        rw [e] at h3 ⊢
        exact h3
      · rintro σ J ⟨u, rfl, h⟩
        rw [List.length_map, List.take_length] at h
        refine ⟨D, _, rfl, h.lst 0 rfl, ?_⟩
        have e : (Ps.map fun p => F2.hit (fU lens (manyOf lens L)) p.1).any id = unevO lens (some L) := by
          show _ = unevenS lens L
          unfold unevenS
          rw [z, Bool.false_or, ← hm, List.any_map, List.any_map]
          rfl
        rw [e]
        exact k _ (h1.sm.trans h.sm)
def spMC (c : F2.Cs) (q : Scs) : Sp := fun vs H Q _ => ∃ (x y : Addr) (L : StepD) (F : F2.Fm), vs = [.ref x, .ref y] ∧ StepAt c q H L x ∧ F2.FormAt c H F y ∧ ∀ H', Same H H' → Q (.bl (match F2.nameOf F with | some r => !r.1 || (isP L.kind || isF L.kind) | none => false)) H'
theorem ok_mc {c : F2.Cs} {q : Scs} (d : DefIn K mg "may_cross" s_may_cross ["step", "part"]) (hisi : mg "isinstance" = none) (G : LooksS K mg c q) : Ok P w K mg base (CXe P w base) 1 "may_cross" ["step", "part"] (spMC c q) := by
  obtain ⟨g, fd, m, F, b⟩ := d
  refine ⟨g, fd, m, F.kp, b, F.okE sc_may_cross (fun vs H Q E ⟨_, _, _, _, e, _⟩ => by rw [e]; rfl) fun cdv A outer s H vs Q E hr h => ?_⟩
  obtain ⟨x, y, L, F, rfl, hx, hy, k⟩ := h
  refine ⟨_, (pss_cons (ps_if (pt_val (pe_callB call_isinst (by rfl) hisi PyProof.Rows.boot_isinstance (pa_cons (pv 1) (pa_cons (pe_gref G.hCe) pa_nil)))) (pss_one (ps_ret (pe_callB call_isinstT (by rfl) hisi PyProof.Rows.boot_isinstance (pa_cons (pv 0) (pa_cons (pe_tup (pa_cons (pe_gref G.hPu) (pa_cons (pe_gref G.hFo) pa_nil))) pa_nil))))) pss_nil)
      (pss_one (ps_ret (pe_callB call_isinstT (by rfl) hisi PyProof.Rows.boot_isinstance (pa_cons (pv 1) (pa_cons (pe_tup (pa_cons (pe_gref G.hSh) (pa_cons (pe_gref G.hAt) pa_nil))) pa_nil)))))), ?_⟩
  obtain ⟨dx, v, p, t, ex, _⟩ := hx.ex
  obtain ⟨dy, fl, ey, _⟩ := clsAt hy
  have S := G.st L.kind
  have T := G.pa F
  refine ⟨_, rfl, _, _, .ref c.cell, _, F2.isCell F, rfl, rfl, (fun u r => r), .inl (T.ty ey), T.ce, F2.isCell F, rfl, ?_⟩
  have far : F2.isCell F = false → (match F2.nameOf F with | some r => !r.1 || (isP L.kind || isF L.kind) | none => false) = (F2.isShi F || F2.isAt F) := fun e => by
    cases F with
    | cell r => cases e
    | _ => rfl
  cases e : F2.isCell F with
  | true =>
    refine iteT ⟨_, rfl, (by show 2 ≤ sizeLine; decide), fun tp ntp => ?_⟩
    have st := same_upd (o := .tup [.ref q.put, .ref q.fold]) (Same.refl H) ntp
    refine ⟨_, tp, [.ref q.put, .ref q.fold], _, _, rfl, upd_same, rfl, S.ty (st _ _ ex), kitAny2 S.p S.f, ?_⟩
    have := k _ st
    cases F with
    | cell r => exact this
    | _ => cases e
  | false =>
    refine iteF ⟨_, rfl, (by show 2 ≤ sizeLine; decide), fun tp ntp => ?_⟩
    have st := same_upd (o := .tup [.ref c.shi, .ref c.at']) (Same.refl H) ntp
    refine ⟨_, tp, [.ref c.shi, .ref c.at'], _, _, rfl, upd_same, rfl, T.ty (st _ _ ey), kitAny2 T.sh T.at', ?_⟩
    have := k _ st
    rw [far e] at this
    exact this
def spXF (c : F2.Cs) (q : Scs) : Sp := fun vs H Q _ => ∃ (x y : Addr) (L : StepD) (F : F2.Fm), vs = [.ref x, .ref y] ∧ StepAt c q H L x ∧ F2.FormAt c H F y ∧ F2.nodes F ≤ 2000 ∧ ∀ H', Same H H' → Q (.bl (F2.hit (fX (isP L.kind || isF L.kind) L.target) F)) H'
theorem ok_xf {c : F2.Cs} {q : Scs} (d : DefIn K mg "is_crossed_form" s_is_crossed_form ["step", "form"]) (G : LooksS K mg c q) (WI : Ok P w K mg base CX0 2 "forms_within" ["form"] (spWithin c)) (MC : Ok P w K mg base (CXe P w base) 1 "may_cross" ["step", "part"] (spMC c q)) : Ok P w K mg base CX0 3 "is_crossed_form" ["step", "form"] (spXF c q) := by
  obtain ⟨g, fd, m, F, b⟩ := d
  refine ⟨g, fd, m, F.kp, b, F.ok sc_is_crossed_form (fun vs H Q E ⟨_, _, _, _, e, _⟩ => by rw [e]; rfl) fun cdv A outer s H vs Q E hr h => ?_⟩
  obtain ⟨x, y, L, F, rfl, hx, hy, hn, k⟩ := h
  have nd := sc_is_crossed_form.nd
  have hr2 := hr
  have hr1 := hr.mono (show 1 ≤ 2 by decide)
  obtain ⟨dx, v, p, t, ex, _⟩ := hx.ex
  have S := G.st L.kind
  generalize epf : (isP L.kind || isF L.kind) = pf at k
  refine ⟨_, (pss_cons (ps_for PassesOwn.never rfl (pi_list (pe_ok WI hr2 (by rfl) pass0 (pa_cons (pv 1) pa_nil))) (pg_name (i := 2) nd rfl (Or.inl rfl)) (pss_one (ps_if (pt_mid (pw_and (pt_val (pe_ok MC hr1 (by rfl) passF (pa_cons (pv 0) (pa_cons (pv 2) pa_nil)))) (pw_and1 (pt_cmpR op_eq (pe_fld (pv 2) rfl) (pe_fld (pv 0) rfl) (nomark _)))).pt) (pss_one (ps_ret pe_bl)) pss_nil)))
      (pss_one (ps_ret pe_bl))), ?_⟩
  refine ⟨_, rfl, y, F, H, rfl, Same.refl _, hy, hn, fun H1 fw Ps h1 hA hl1 hs hh => ?_⟩
  refine ⟨fw, rfl, ⟨_, h1.lst 0 rfl⟩, ?_⟩
  refine for_list (K := K) (a := fw) (xs := Ps.map fun p => V.ref p.2) (fun i σ J => ∃ u2, σ = [some (.ref x), some (.ref y), u2] ∧ Same H1 J ∧ ∀ p ∈ Ps.take i, F2.ownN (fX pf L.target) p.1 = 0) ⟨none, rfl, Same.refl _, fun p hp => nomatch hp⟩ (fun i σ J _ ⟨_, _, s, _⟩ => SqL.of (s _ _ (h1.get 0 rfl))) ?_ ?_
  · rintro i z σ J hy' ⟨u3, rfl, sJ, hz⟩
    obtain ⟨p, hp, rfl⟩ := list_at hy'
    have mp := List.mem_of_getElem? hp
    have sH := h1.sm.trans sJ
    have next : F2.ownN (fX pf L.target) p.1 = 0 → ∀ r ∈ Ps.take (i + 1), F2.ownN (fX pf L.target) r.1 = 0 := fun e r hr => by
      rw [List.take_add_one, hp] at hr
      rcases List.mem_append.mp hr with hr | hr
      · exact hz r hr
      · cases List.mem_singleton.mp hr; exact e
    refine ⟨fun b J' => Same J J' ∧ b = decide (F2.ownN (fX pf L.target) p.1 = 1), ?_, ?_⟩
    · refine ⟨_, rfl, _, rfl, x, p.2, L, p.1, rfl, hx.same sH, (hA p mp).same sH, fun J2 s2 => ⟨_, rfl, ?_⟩⟩
      rw [epf]
      cases en : F2.nameOf p.1 with
      | none =>
        refine iteF ⟨s2, ?_⟩
        unfold F2.ownN; rw [en]; rfl
      | some r =>
        have eo : F2.ownN (fX pf L.target) p.1 = if (decide (r.2 = L.target) && (!r.1 || pf)) = true then 1 else 0 := by unfold F2.ownN; rw [en]; rfl
        obtain ⟨dy, fl, ey, er⟩ := clsAt ((hA p mp).same (sH.trans s2))
        have el := er r en
        have nr : NoAttr K (F2.clsOf c p.1) "row" := by
          cases e : p.1 with
          | cell _ => exact G.rc
          | shi _ _ _ => exact G.rs
          | at' _ _ => exact G.ra
          | _ => rw [e] at en; cases en
        refine ite2 (fun z1 => ?_) (fun z1 => ⟨s2, ?_⟩)
        · refine ⟨_, rfl, p.2, _, dy, fl, _, rfl, ey, (G.pa p.1).cl, nr, el, _, rfl, x, _, dx, _, _, rfl, (sH.trans s2) _ _ ex, S.cl, G.ng _, fld_target, rfl, _, rfl, s2, ?_⟩
          rw [eo, intEq]
          by_cases z2 : r.2 = L.target
          · rw [decide_eq_true z2]
            rw [Bool.true_and, if_pos z1]; rfl
          · rw [decide_eq_false z2]; rfl
        · rw [eo]
          have z1 : (!r.1 || pf) = false := by simpa using z1
          rw [z1, Bool.and_false]; rfl
    rintro b J' ⟨s2, rfl⟩
    refine ite2 (fun z => ?_) (fun z => ?_)
    · have h1' := hit_of hs mp (of_decide_eq_true z)
      rw [h1'] at k
      exact k _ (sH.trans s2)
    · refine ⟨_, rfl, sJ.trans s2, next ?_⟩
      have z : ¬ F2.ownN (fX pf L.target) p.1 = 1 := by simpa using z
      unfold F2.ownN at z ⊢
      split
      · split
        · rename_i e1 e2; rw [e1] at z; simp [e2] at z
        · rfl
      · rfl
  · rintro σ J ⟨u3, rfl, sJ, hz⟩
    rw [List.length_map, List.take_length] at hz
    have := k _ (h1.sm.trans sJ)
    rw [hit_no hs hz] at this
    exact this
def spCrossed (c : F2.Cs) (q : Scs) (n : Nat) : Sp := fun vs H Q _ => ∃ (x : Addr) (o : Option StepD), vs = [.ref x] ∧ AskAt c q n H x o ∧ ∀ H', Same H H' → Q (.bl (croO o)) H'
theorem ok_crossed {c : F2.Cs} {q : Scs} {n : Nat} (d : DefIn K mg "crossed" s_crossed ["step"]) (hisi : mg "isinstance" = none) (hany : mg "any" = none) (G : LooksS K mg c q) (FO : Ok P w K mg base (CXe P w base) 1 "forms_of" ["step"] (spFormsOf c q)) (XF : Ok P w K mg base CX0 3 "is_crossed_form" ["step", "form"] (spXF c q)) : Ok P w K mg base CX0 4 "crossed" ["step"] (spCrossed c q n) := by
  obtain ⟨g, fd, m, F, b⟩ := d
  refine ⟨g, fd, m, F.kp, b, F.ok sc_crossed (fun vs H Q E ⟨_, _, e, _⟩ => by rw [e]; rfl) fun cdv A outer s H vs Q E hr h => ?_⟩
  obtain ⟨x, o, rfl, hx, k⟩ := h
  have nd := sc_crossed.nd
  have hr3 := hr
  have hr1 := hr.mono (show 1 ≤ 3 by decide)
  refine ⟨_, (pss_cons (ps_if (pt_val (pe_callB call_isinst (by rfl) hisi PyProof.Rows.boot_isinstance (pa_cons (pv 0) (pa_cons (pe_gref G.hTi) pa_nil)))) (pss_one (ps_ret pe_bl)) pss_nil)
      (pss_one (ps_ret (pe_callB (call_anyB rfl) (by rfl) hany PyProof.Rows.boot_any (pa_cons (pe_compC ["form", "step"] [none, some 0] rfl rfl rfl (pi_list (pe_ok FO hr1 (by rfl) passF (pa_cons (pv 0) pa_nil))) (fun s3 H3 fp => ⟨pg_name (i := 0) (show ((["form", "step"] : List Str)).Nodup by decide +kernel) rfl (Or.inl rfl), (pe_ok XF hr3 (by rfl) pass0 (pa_cons (pv 1) (pa_cons (pv 0) pa_nil)))⟩)) pa_nil))))), ?_⟩
  cases o with
  | none =>
    obtain ⟨dx, fl, ex⟩ := hx
    exact ⟨_, rfl, _, _, .ref q.till, _, true, rfl, rfl, (fun u r => r), .inl (G.till.ty ex), G.till.t, true, rfl, iteT (k _ (Same.refl _))⟩
  | some L =>
    obtain ⟨hx, hL⟩ := hx
    obtain ⟨dx, v, p, t, ex, fv, ft, fp⟩ := hx.ex
    have S := G.st L.kind
    refine ⟨_, rfl, _, _, .ref q.till, _, false, rfl, rfl, (fun u r => r), .inl (S.ty ex), S.t, false, rfl, iteF ?_⟩
    refine ⟨_, rfl, x, L, rfl, hx, fun H1 fo Ps h1 hm hA => ?_⟩
    refine ⟨fo, rfl, ⟨_, h1.lst 0 rfl⟩, _, rfl, fun D nD => ?_⟩
    generalize efx : fX (isP L.kind || isF L.kind) L.target = fx
    have h0 : Hd H1 [(D, .lst (((Ps.take 0).map fun p => F2.hit fx p.1).map V.bl))] (upd H1 D (.lst [])) := Hd.base.new nD
    have lPs : Ps.length ≤ 3 := by
      have : Ps.length = (formsOfS L).length := by rw [← hm, List.length_map]
      rw [this]; exact formsOfS_len L
    have hLf : ∀ p ∈ Ps, F2.nodes p.1 ≤ 2000 := fun p hp => (hL.f p.1 (by rw [← hm]; exact List.mem_map_of_mem hp)).1
    refine comp_list (K := K) (a := fo) (D := D) (xs := Ps.map fun p => V.ref p.2) (fun i σ J => ∃ u, σ = [u, some (.ref x)] ∧ Hd H1 [(D, .lst (((Ps.take i).map fun p => F2.hit fx p.1).map V.bl))] J) ⟨none, rfl, h0⟩ (fun i σ J _ ⟨_, _, h⟩ => SqL.of (h.sm _ _ (h1.get 0 rfl))) ?_ ?_
    · clear h0
      rintro i y σ J hy ⟨u, rfl, h⟩
      obtain ⟨p, hp, rfl⟩ := list_at hy
      have mp := List.mem_of_getElem? hp
      have sH := h1.sm.trans h.sm
      refine ⟨_, rfl, _, rfl, x, p.2, L, p.1, rfl, hx.same sH, (hA p mp).same sH, hLf p mp, fun J2 s2 => ?_⟩
      rw [efx]
      have h2 := h.same s2
      refine ⟨_, h2.get 0 rfl, (by rw [List.length_map, List.length_map, List.length_take]; exact Nat.lt_of_le_of_lt (Nat.le_trans (Nat.min_le_right _ _) lPs) (by decide)), _, rfl, ?_⟩
      have h3 := h2.put (o' := .lst (((Ps.take (i + 1)).map fun p => F2.hit fx p.1).map V.bl)) 0 rfl
      have e : (((Ps.take (i + 1)).map fun p => F2.hit fx p.1).map V.bl) = (((Ps.take i).map fun p => F2.hit fx p.1).map V.bl) ++ [V.bl (F2.hit fx p.1)] := by
        rw [List.take_add_one, hp, List.map_append, List.map_append]; rfl
      rw [e] at h3 ⊢
      exact h3
    · rintro σ J ⟨u, rfl, h⟩
      rw [List.length_map, List.take_length] at h
      refine ⟨D, _, rfl, h.lst 0 rfl, ?_⟩
      have e : (Ps.map fun p => F2.hit fx p.1).any id = croO (some L) := by
        show _ = crossS L
        unfold crossS
        rw [efx, ← hm, List.any_map, List.any_map]
        rfl
      rw [e]
      exact k _ (h1.sm.trans h.sm)
end
end K20
namespace L2
open PySem PySem.Spec PyProof.Rows
section
variable {X : Cx}
end
end L2
namespace L2
open PySem PySem.Spec PyProof.Rows
structure FunD (K : PySem.W.Frag) (x qual : Str) (st : Stmt) (f : Addr) (fd : FuncData) (ds : Array Value) : Prop where
  ex : ∃ (oc : Value) (od : Option Addr) (kV doc pm : Value) (an : Option Addr) (cdv ct : Value) (osl : Array (Option Value)) (T : Addr) (o : Obj) (n : Nat),
    fd = PySem.W.fnOf x qual (defArgs st) (defBody st) (defScope st) (.ref T) kV doc pm an cdv ct ∧ K.lookup f = some ⟨oc, od, .func fd, osl⟩ ∧ PySem.W.codeIn K cdv qual = true ∧ K.lookup T = some o ∧ o.data = .seq ds n
  kp : PySem.W.keepIn K (.ref f) = true
section
variable {P : Program} {w : World} {K : PySem.W.Frag} {mg : Str → Option Value} {base : Heap}
theorem FunD.okE {x qual : Str} {st : Stmt} {f : Addr} {fd : FuncData} {ds : Array Value} {N ps : List Str} {k : Nat} {sp : Sp} (F : FunD K x qual st f fd ds) (S : FnScope N ps (defScope st)) (len : ∀ vs H Q E, sp vs H Q E → vs.length = ps.length)
    (hbody : ∀ (cdv : Value) (A : Around) (outer : List Env) (s : Shared) (H : Hp) (vs : List V) (Q : VK) (E : XK), Room k (A.deeper (envOfC qual (defScope st) s.heap.objs.size f cdv)) → sp vs H Q E →
      ∃ t, PSs (cxOf (CXe P w base) P w K mg base N qual (defScope st) f cdv A outer s H E) (defBody st) t ∧ t { nx := fun _ H' => Q .non H', rt := Q } (start N vs) H) : FnOk P w K mg base (CXe P w base) (k + 1) f fd ps sp := by
  obtain ⟨oc, od, kV, doc, pm, an, cdv, ct, osl, T, o, n, rfl, lk, hcd, _, _⟩ := F.ex
  exact fn_of lk hcd S len fun A outer s H vs Q E hr hsp => hbody cdv A outer s H vs Q E hr hsp
theorem FunD.binds {x qual : Str} {st : Stmt} {f : Addr} {fd : FuncData} {ds : Array Value} {ps : List Str} {ds2 : List Value} (F : FunD K x qual st f fd ds)
    (h : ∀ (T : Addr) (kV doc pm : Value) (an : Option Addr) (cdv ct : Value) (us : List Value), (us ++ ds2).length = ps.length → ∃ k : Option (Array Value) → Sem (List (Str × Value)), bindArgs (PySem.W.fnOf x qual (defArgs st) (defBody st) (defScope st) (.ref T) kV doc pm an cdv ct) ⟨us, []⟩ = seqItems? (.ref T) >>= k ∧ k (some ds) = pure (ps.zip (us ++ ds2))) : Binds K fd ps ds2 := by
  obtain ⟨oc, od, kV, doc, pm, an, cdv, ct, osl, T, o, n, rfl, lk, hcd, lT, eT⟩ := F.ex
  intro s us KX hl
  obtain ⟨k, h1, h2⟩ := h T kV doc pm an cdv ct us hl
  exact BindsTo.of_defaults rfl (KX _ _ lT) eT h1 h2
theorem funD_mk {x qual : Str} {st : Stmt} {f T : Addr} {oc ocT : Value} {od an odT : Option Addr} {osl oslT : Array (Option Value)} {kV doc pm cdv ct : Value} {ds : Array Value} {n : Nat} (l : K.lookup f = some ⟨oc, od, .func (PySem.W.fnOf x qual (defArgs st) (defBody st) (defScope st) (.ref T) kV doc pm an cdv ct), osl⟩)
    (c : PySem.W.codeIn K cdv qual = true) (k : PySem.W.keepIn K (.ref f) = true) (lT : K.lookup T = some ⟨ocT, odT, .seq ds n, oslT⟩) : FunD K x qual st f (PySem.W.fnOf x qual (defArgs st) (defBody st) (defScope st) (.ref T) kV doc pm an cdv ct) ds := ⟨⟨oc, od, kV, doc, pm, an, cdv, ct, osl, T, _, n, rfl, l, c, lT, rfl⟩, k⟩
def InitN (K : PySem.W.Frag) (C : Addr) (qual : Str) (st : Stmt) (ps : List Str) : Prop := ∃ (f : Addr) (fd : FuncData), Mk K C f ∧ FunD K "__init__" qual st f fd #[.none] ∧ Binds K fd ps [] ∧ Binds K fd ps [.none]
def OkN (P : Program) (w : World) (K : PySem.W.Frag) (mg : Str → Option Value) (base : Heap) (CX : CXT) (k : Nat) (C : Addr) (ps : List Str) (sp : Sp) : Prop :=
  ∃ (f : Addr) (fd : FuncData), Mk K C f ∧ Binds K fd ps [] ∧ Binds K fd ps [.none] ∧ FnOk P w K mg base CX k f fd ps sp
end
section
variable {X : Cx} {CX : CXT} {k : Nat} {C : Addr} {ps : List Str} {sp : Sp} {E : XK} {x m : Str} {p pos apos : Pos} {e o : Expr} {es : List Expr} {ta : TE} {t : TA}
theorem OkN.all {P : Program} {w : World} {K : PySem.W.Frag} {mg : Str → Option Value} {base : Heap} (h : OkN P w K mg base CX k C ps sp) : OkI P w K mg base CX k C ps sp := by
  obtain ⟨f, fd, a, b, _, d⟩ := h
  exact ⟨f, fd, a, b, d⟩
theorem pe_okN (h : OkN X.prog X.w X.K X.mg X.base CX k C ps sp) (hm : X.mg x = some (.ref C)) (hr : Room (k + 1) X.A) (hg : Gl X x) (hx : Passes CX X E) (ha : PA X (e :: es) t) (hdb : (x == ("__debug__" : Str)) = false := by decide)
    (he : starEach (e :: es) X.env = (false, eval e X.env) :: starEach es X.env := by rfl) (hpl : (backTo pos (starEach es X.env)).any (·.1) = false := by rfl) : PE X (.Call (.Name x p) (e :: es) [] pos) (tMake C sp [.non] E t) := by
  obtain ⟨f, fd, a, _, b, d⟩ := h
  exact pe_make a d hr hg hm b (.cons rfl .nil) hx ha hdb he hpl
end
end L2
namespace L2
open PySem PySem.Spec PyProof.Rows
theorem op_inK {X : Cx} {K : PySem.W.Frag} (h : X.K = K) : OpR X (compareOp .In) (rIn K false) := h ▸ op_in_seq
theorem flat_ints : ∀ ns : List Int, (ns.map V.int).all flatV = true
  | [] => rfl
  | n :: ns => by rw [List.map_cons, List.all_cons, flat_ints ns]; rfl
end L2
namespace K20
open PySem L2 FM ST
section
variable {P : Program} {w : World} {K : PySem.W.Frag} {mg : Str → Option Value} {base : Heap}
def spMx : Sp := fun vs H Q _ => ∃ a k : Int, vs = [.int a, .int k] ∧ ∀ n, 0 ≤ n → Q (.int n) H
theorem ok_mixed (d : DefIn K mg "_law_mixed" s_l_mixed ["_law_cell", "_law_k"]) : Ok P w K mg base (CXe P w base) 1 "_law_mixed" ["_law_cell", "_law_k"] spMx := by
  obtain ⟨g, fd, m, F, b⟩ := d
  refine ⟨g, fd, m, F.kp, b, F.okE sc_l_mixed (fun vs H Q E ⟨_, _, e, _⟩ => by rw [e]; rfl) fun cdv A outer s H vs Q E hr h => ?_⟩
  obtain ⟨a, k, rfl, q⟩ := h
  have nd := sc_l_mixed.nd
  refine ⟨_, (pss_cons (ps_set (i := 2) nd rfl (Or.inl rfl) (pe_op op_mod (pe_op op_mul (pe_op op_add (pe_op op_add (pe_op op_mod (pv 0) pe_int) (pe_op op_mul pe_int (pv 1))) pe_int) pe_int) pe_int))
      (pss_one (ps_ret (pe_op op_mod (pe_op op_mul (pv 2) (pv 2)) pe_int)))), ?_⟩
  refine ⟨_, rfl, _, _, rfl, rfl, (by show (0 : Int) < 2147483647; decide), _, rfl, _, _, rfl, rfl, .inl ⟨by decide, by decide⟩, _, _, rfl, rfl, _, _, rfl, rfl, _, _, rfl, rfl, .inr ⟨by decide, by decide⟩, _, _, rfl, rfl, (by show (0 : Int) < 2147483647; decide), ?_⟩
  have z0 := Int.emod_nonneg ((a % 2147483647 + 5 * k + 1) * 48271) (show (2147483647 : Int) ≠ 0 by decide)
  have z1 := Int.emod_lt_of_pos ((a % 2147483647 + 5 * k + 1) * 48271) (show (0 : Int) < 2147483647 by decide)
  show gName 2 (.int ((a % 2147483647 + 5 * k + 1) * 48271 % 2147483647)) _ _ _
  generalize (a % 2147483647 + 5 * k + 1) * 48271 % 2147483647 = z at z0 z1
  exact ⟨_, rfl, _, rfl, _, _, rfl, rfl, .inl ⟨by omega, by omega⟩, _, _, rfl, rfl, (by show (0 : Int) < 2147483629; decide), q _ (Int.emod_nonneg _ (by decide))⟩
def spCA (K : PySem.W.Frag) : Sp := fun vs H Q _ => ∃ (a : Addr) (k : Nat) (ns : List Int), vs = [.ref a, .int k] ∧ SqL K H a (ns.map V.int) ∧ ∀ n, Q (.int n) H
theorem ok_cellAt (d : DefIn K mg "_law_cell_at" s_l_cell_at ["_law_script", "_law_k"]) (hlen : mg "len" = none) : Ok P w K mg base (CXe P w base) 1 "_law_cell_at" ["_law_script", "_law_k"] (spCA K) := by
  obtain ⟨g, fd, m, F, b⟩ := d
  refine ⟨g, fd, m, F.kp, b, F.okE sc_l_cell_at (fun vs H Q E ⟨_, _, _, e, _⟩ => by rw [e]; rfl) fun cdv A outer s H vs Q E hr h => ?_⟩
  obtain ⟨a, k, ns, rfl, ha, q⟩ := h
  refine ⟨_, (pss_cons (ps_if (pt_cmpR op_lt (pv 1) (pe_callB call_len_seq (by rfl) hlen PySem.boot_len (pa_cons (pv 0) pa_nil)) (nomark _)) (pss_one (ps_ret (pe_ix ix_list (pv 0) (pv 1) (fun _ _ => rfl)))) pss_nil)
      (pss_one (ps_ret pe_int))), ?_⟩
  refine ⟨_, rfl, _, rfl, a, _, rfl, .inl ha, _, _, rfl, rfl, _, rfl, ?_⟩
  refine ite2 (fun z => ?_) (fun z => q _)
  have z : (k : Int) < ((ns.map V.int).length : Int) := by simpa using z
  rw [List.length_map] at z
  exact ⟨_, rfl, _, rfl, a, _, _, _, rfl, rfl, ha, at_int k (by omega) rfl, q _⟩
def spLB (K : PySem.W.Frag) : Sp := fun vs H Q _ => ∃ (a : Addr) (ns : List Int), vs = [.ref a] ∧ SqL K H a (ns.map V.int) ∧ ∀ H' l (lens : List Int), Same H H' → H' l = some (.lst (lens.map V.int)) → 1 ≤ lens.length → lens.length ≤ 12 → Q (.ref l) H'
theorem ok_lengths (d : DefIn K mg "_law_lengths_by" s_l_lengths_by ["_law_script"]) (hrg : mg "range" = none) (CA : Ok P w K mg base (CXe P w base) 1 "_law_cell_at" ["_law_script", "_law_k"] (spCA K)) (MX : Ok P w K mg base (CXe P w base) 1 "_law_mixed" ["_law_cell", "_law_k"] spMx) : Ok P w K mg base CX0 2 "_law_lengths_by" ["_law_script"] (spLB K) := by
  obtain ⟨g, fd, m, F, b⟩ := d
  refine ⟨g, fd, m, F.kp, b, F.ok sc_l_lengths_by (fun vs H Q E ⟨_, _, e, _⟩ => by rw [e]; rfl) fun cdv A outer s H vs Q E hr h => ?_⟩
  obtain ⟨a, ns, rfl, ha, q⟩ := h
  have nd := sc_l_lengths_by.nd
  have hr1 := hr
  refine ⟨_, (pss_cons (ps_set (i := 1) nd rfl (Or.inl rfl) (pe_op op_add (pe_op op_mod (pe_ok CA hr1 (by rfl) passF (pa_cons (pv 0) (pa_cons pe_int pa_nil))) pe_int) pe_int))
      (pss_cons (ps_set (i := 2) nd rfl (Or.inl rfl) (pe_lst pa_nil))
      (pss_cons (ps_for PassesOwn.never rfl (pi_range1 rfl hrg (pa_cons (pe_op op_add (pe_op op_mod (pe_ok CA hr1 (by rfl) passF (pa_cons (pv 0) (pa_cons pe_int pa_nil))) pe_int) pe_int) pa_nil)) (pg_name (i := 3) nd rfl (Or.inl rfl)) (pss_cons (ps_set (i := 4) nd rfl (Or.inl rfl) (pe_ok MX hr1 (by rfl) passF (pa_cons (pe_ok CA hr1 (by rfl) passF (pa_cons (pv 0) (pa_cons pe_int pa_nil))) (pa_cons (pv 3) pa_nil))))
      (pss_one (ps_expr (pe_bm PySem.F.plainAttrs_list PySem.F.slot_list_append PySem.F.type_list_append mt_append (pv 2) (pa_cons (pe_ix ix_list (pe_lst (pa_cons pe_int (pa_cons (pv 1) (pa_cons (pv 1) (pa_cons (pe_op op_add (pe_op op_mod (pe_op op_fdiv (pv 4) pe_int) pe_int) pe_int) pa_nil))))) (pe_op op_mod (pv 4) pe_int) (fun _ _ => rfl)) pa_nil))))))
      (pss_one (ps_ret (pv 2)))))), ?_⟩
  refine ⟨_, rfl, a, 1, ns, rfl, ha, fun n1 => ⟨_, _, rfl, rfl, (by show (0 : Int) < 400; decide), _, _, rfl, rfl, (by show 0 ≤ sizeLine; decide), fun l nl => ?_⟩⟩
  have h0 : Hd H [(l, .lst (([] : List Int).map V.int))] (upd H l (.lst [])) := Hd.base.new nl
  generalize upd H l (.lst []) = H1 at h0 ⊢
  refine ⟨_, rfl, a, 0, ns, rfl, h0.sql ha, fun n0 => ⟨_, _, rfl, rfl, (by show (0 : Int) < 12; decide), _, _, rfl, rfl, _, rfl, by omega, by omega, ?_⟩⟩
  obtain ⟨n, en⟩ : ∃ n : Nat, n0 % 12 + 1 = n := ⟨(n0 % 12 + 1).toNat, by omega⟩
  show ∃ W : Nat → Nat → St → Hp → Prop, _
  rw [en, Int.toNat_natCast]
  refine for_range (n := n) (fun i σ J => ∃ (lens : List Int) (u3 u4 : Option V), σ = [some (.ref a), some (.int (n1 % 400 + 1)), some (.ref l), u3, u4] ∧ Hd H [(l, .lst (lens.map V.int))] J ∧ lens.length = i) ⟨[], none, none, rfl, h0, rfl⟩ ?_ ?_
  · clear h0
    rintro i σ J hi ⟨lens, u3, u4, rfl, h, hl⟩
    refine ⟨_, rfl, a, 2, ns, rfl, h.sql ha, fun n2 => ⟨_, rfl, _, _, rfl, fun mv m0 => ?_⟩⟩
    refine ⟨_, rfl, .inl ⟨rfl, _, h.lst 0 rfl⟩, _, rfl, _, rfl, _, rfl, _, _, rfl, rfl, ⟨by decide, by decide⟩, _, _, rfl, rfl, (by show (0 : Int) < 400; decide), _, _, rfl, rfl, (by show 4 ≤ sizeLine; decide), fun tl ntl => ?_⟩
    have h2 := h.new (o := .lst (([1, n1 % 400 + 1, n1 % 400 + 1, mv / 4 % 400 + 1] : List Int).map V.int)) ntl
    have i4 : mv % 4 = 0 ∨ mv % 4 = 1 ∨ mv % 4 = 2 ∨ mv % 4 = 3 := by omega
    obtain ⟨j, j4, ej⟩ : ∃ j : Nat, j < 4 ∧ mv % 4 = j := ⟨(mv % 4).toNat, by omega, by omega⟩
    refine ⟨_, rfl, _, _, rfl, rfl, (by show (0 : Int) < 4; decide), tl, _, _, _, rfl, rfl, h2.lst 0 rfl, at_int j j4 ej, l, _, _, rfl, rfl, h2.get 1 rfl, (by rw [List.length_map]; exact Nat.lt_of_le_of_lt (show lens.length ≤ 12 by omega) (by decide)), ?_⟩
    have h3 := (h2.put (o' := .lst ((lens ++ [([1, n1 % 400 + 1, n1 % 400 + 1, mv / 4 % 400 + 1] : List Int).getD j 0]).map V.int)) 1 rfl).tl
    have h3 : Hd H [(l, .lst ((lens ++ [([1, n1 % 400 + 1, n1 % 400 + 1, mv / 4 % 400 + 1] : List Int).getD j 0]).map V.int))] _ := h3
    rw [List.map_append] at h3
    exact ⟨lens ++ [_], _, _, rfl, by rw [List.map_append]; exact h3, by rw [List.length_append, hl]; rfl⟩
  · rintro σ J ⟨lens, u3, u4, rfl, h, hl⟩
    exact ⟨_, rfl, q J l lens h.sm (h.get 0 rfl) (by omega) (by omega)⟩
def spRB (K : PySem.W.Frag) : Sp := fun vs H Q _ => ∃ (cell target : Int) (la fa : Addr) (lens fit : List Int), vs = [.int cell, .ref la, .int target, .ref fa] ∧ SqL K H la (lens.map V.int) ∧ SqL K H fa (fit.map V.int) ∧ 1 ≤ lens.length ∧ lens.length ≤ 12 ∧ ∀ H' (r : Int), Same H H' → 0 ≤ r → r.toNat < lens.length → Q (.int r) H'
theorem ok_rowBy (d : DefIn K mg "_law_row_by" s_l_row_by ["_law_cell", "_law_lengths", "_law_target", "_law_fit"]) (hlen : mg "len" = none) (hrg : mg "range" = none) : Ok P w K mg base CX0 2 "_law_row_by" ["_law_cell", "_law_lengths", "_law_target", "_law_fit"] (spRB K) := by
  obtain ⟨g, fd, m, F, b⟩ := d
  refine ⟨g, fd, m, F.kp, b, F.ok sc_l_row_by (fun vs H Q E ⟨_, _, _, _, _, _, e, _⟩ => by rw [e]; rfl) fun cdv A outer s H vs Q E hr h => ?_⟩
  obtain ⟨cell, target, la, fa, lens, fit, rfl, hL, hF, l1, l12, q⟩ := h
  have nd := sc_l_row_by.nd
  have hu := hr.units
  have SL : (600 : Nat) < sizeLine := by decide
  refine ⟨_, (pss_cons (ps_compC (i := 4) ["_law_k"] [none] rfl rfl rfl (pi_range1 rfl hrg (pa_cons (pe_callB call_len_seq (by rfl) hlen PySem.boot_len (pa_cons (pv 1) pa_nil)) pa_nil)) (fun s3 H3 fp => ⟨pg_name (i := 0) (show ((["_law_k"] : List Str)).Nodup by decide +kernel) rfl (Or.inl rfl), (pv 0)⟩) nd rfl (Or.inl rfl))
      (pss_cons (ps_compF (i := 6) ["_law_k", "_law_target", "_law_fit", "_law_lengths"] [none, some 2, some 3, some 1] rfl rfl rfl (pi_list (pv 4)) (fun s3 H3 fp => ⟨pg_name (i := 0) (show ((["_law_k", "_law_target", "_law_fit", "_law_lengths"] : List Str)).Nodup by decide +kernel) rfl (Or.inl rfl), (pw_and (pt_cmpR op_ne (pv 0) (pv 1) (nomark _)) (pw_and1 (pt_cmpR (op_inK (K := K) rfl) (pe_ix (ix_listK (K := K) rfl) (pv 3) (pv 0) (fun _ _ => rfl)) (pv 2) rfl))).pt, (pv 0)⟩) nd rfl (Or.inl rfl))
      (pss_cons (ps_if (pt_mid (pw_or (pt_cmpR op_eq (pe_op op_mod (pv 0) pe_int) pe_int (nomark _)) (pw_or1 (pt_cmpR (op_eqD hu) (pv 6) (pe_lst pa_nil) (nomark _)))).pt) (pss_one (ps_ret (pe_op op_mod (pe_op op_fdiv (pv 0) pe_int) (pe_callB call_len_seq (by rfl) hlen PySem.boot_len (pa_cons (pv 1) pa_nil))))) pss_nil)
      (pss_one (ps_ret (pe_ix ix_list (pv 6) (pe_op op_mod (pe_op op_fdiv (pv 0) pe_int) (pe_callB call_len_seq (by rfl) hlen PySem.boot_len (pa_cons (pv 6) pa_nil))) (fun _ _ => rfl))))))), ?_⟩
  refine ⟨_, rfl, la, _, rfl, .inl hL, _, rfl, by omega, (by rw [List.length_map]; omega), _, rfl, fun D nD => ?_⟩
  rw [List.length_map, Int.toNat_natCast]
  have h0 : Hd H [(D, .lst (([] : List Int).map V.int))] (upd H D (.lst [])) := Hd.base.new nD
  generalize upd H D (.lst []) = H1 at h0 ⊢
  refine comp_range (n := lens.length) (fun i σ J => ∃ (u : Option V) (rs : List Int), σ = [u] ∧ Hd H [(D, .lst (rs.map V.int))] J ∧ rs.length = i ∧ ∀ r ∈ rs, 0 ≤ r ∧ r.toNat < lens.length) ⟨none, [], rfl, h0, rfl, fun r hr => nomatch hr⟩ ?_ ?_
  · clear h0
    rintro i σ J hi ⟨u, rs, rfl, h, hl, hg⟩
    refine ⟨_, rfl, _, h.get 0 rfl, (by rw [List.length_map]; omega), _, rs ++ [0 + (i : Int)], rfl, ?_, (by rw [List.length_append, hl]; rfl), fun r hr => ?_⟩
    · rw [List.map_append]; exact h.put 0 rfl
    · rcases List.mem_append.mp hr with hr | hr
      · exact hg r hr
      · cases List.mem_singleton.mp hr; omega
  rintro σ J ⟨u, rs, rfl, h, hl, hg⟩
  clear h0
  refine ⟨_, rfl, D, rfl, ⟨_, h.lst 0 rfl⟩, _, rfl, fun D2 nD2 => ?_⟩
  have h0 : Hd J [(D2, .lst (([] : List Int).map V.int))] (upd J D2 (.lst [])) := Hd.base.new nD2
  have sJ := h.sm
  have eD := h.get 0 rfl
  generalize upd J D2 (.lst []) = J1 at h0 ⊢
  refine compF_list (K := K) (a := D) (xs := rs.map V.int) (fun i σ J' => ∃ (u : Option V) (gs : List Int), σ = [u, some (.int target), some (.ref fa), some (.ref la)] ∧ Hd J [(D2, .lst (gs.map V.int))] J' ∧ gs.length ≤ i ∧ ∀ r ∈ gs, 0 ≤ r ∧ r.toNat < lens.length) ⟨none, [], rfl, h0, Nat.le_refl _, fun r hr => nomatch hr⟩ (fun i σ J' _ ⟨_, _, _, h, _⟩ => SqL.of (h.sm _ _ eD)) ?_ ?_
  · clear h0
    rintro i y σ J2 hy ⟨u, gs, rfl, h, hl2, hg2⟩
    obtain ⟨hlt, rfl⟩ := map_int_at hy
    have hfi := hg _ (L2.getD_mem hlt)
    generalize rs.getD i 0 = ro at hfi ⊢
    refine ⟨_, rfl, _, rfl, rfl, _, rfl, ?_⟩
    refine ite2 (fun z => ?_) (fun z => iteF ⟨_, gs, rfl, h, by omega, hg2⟩)
    refine ⟨_, rfl, _, rfl, la, _, _, _, rfl, rfl, h.sql (sql_same hL sJ), at_int ro.toNat hfi.2 (by omega), _, rfl, fa, _, rfl, .inl (h.sql (sql_same hF sJ)), rfl, flat_ints _, _, rfl, ?_⟩
    refine ite2 (fun z => ?_) (fun z => ⟨_, gs, rfl, h, by omega, hg2⟩)
    refine ⟨_, rfl, _, h.get 0 rfl, (by rw [List.length_map]; omega), _, gs ++ [ro], rfl, ?_, (by rw [List.length_append]; show _ + 1 ≤ _; omega), fun r hr => ?_⟩
    · rw [List.map_append]; exact h.put 0 rfl
    · rcases List.mem_append.mp hr with hr | hr
      · exact hg2 r hr
      · cases List.mem_singleton.mp hr; exact hfi
  rintro σ J2 ⟨u, gs, rfl, h, hl2, hg2⟩
  clear h0
  rw [List.length_map] at hl2
  have s2 := sJ.trans h.sm
  refine ⟨fun b J' => Same J2 J' ∧ (b = false → 0 < gs.length), ?_, ?_⟩
  · refine ⟨_, rfl, _, _, rfl, rfl, (by show (0 : Int) < 8; decide), rfl, _, rfl, ?_⟩
    refine ite2 (fun z => ⟨Same.refl _, fun e => by cases e⟩) (fun z => ?_)
    refine ⟨_, rfl, (by show 0 ≤ sizeLine; decide), fun e ne => ?_⟩
    have se := same_upd (o := .lst []) (Same.refl J2) ne
    refine ⟨dI gs, dI [], dv_ints (SqL.of (se _ _ (h.get 0 rfl))), dv_ints (SqL.of upd_same), lay_ints, lay_ints, (by have := dep_ints (ns := gs); omega), _, rfl, se, fun e => ?_⟩
    cases gs with
    | nil => rw [show ((dI []).eqv (dI [])) = true from SeqAt.eqv_refl _ lay_ints] at e; cases e
    | cons x r => exact Nat.succ_pos _
  rintro b J' ⟨s3, hb⟩
  have mods : ∀ (z : Int) (n : Nat), 0 < n → 0 ≤ z % (n : Int) ∧ (z % (n : Int)).toNat < n := fun z n hn => by
    have := Int.emod_nonneg z (show (n : Int) ≠ 0 by omega)
    have := Int.emod_lt_of_pos z (show (0 : Int) < (n : Int) by omega)
    omega
  cases b with
  | true =>
    refine iteT ⟨_, rfl, _, _, rfl, rfl, ⟨by decide, by decide⟩, _, rfl, la, _, rfl, .inl (sql_same hL (s2.trans s3)), _, _, rfl, rfl, (by rw [List.length_map]; omega), ?_⟩
    rw [List.length_map]
    obtain ⟨z0, z1⟩ := mods (cell / 8) lens.length (by omega)
    exact q _ _ (s2.trans s3) z0 z1
  | false =>
    have hp := hb rfl
    refine iteF ⟨_, rfl, _, rfl, _, _, rfl, rfl, ⟨by decide, by decide⟩, _, rfl, D2, _, rfl, .inl (SqL.of (s3 _ _ (h.get 0 rfl))), _, _, rfl, rfl, (by rw [List.length_map]; omega), ?_⟩
    rw [List.length_map]
    obtain ⟨z0, z1⟩ := mods (cell / 8) gs.length hp
    refine ⟨D2, _, _, _, rfl, rfl, SqL.of (s3 _ _ (h.get 0 rfl)), at_int _ z1 (by omega), ?_⟩
    obtain ⟨r0, r1⟩ := hg2 _ (L2.getD_mem z1)
    exact q _ _ (s2.trans s3) r0 r1
def wayS : Bool → Str
  | true => "near"
  | false => "far"
structure EN where
  F : F2.Fm
  y : Addr
  nl : Addr
  Rs : List ((Bool × Int) × Addr)
  t : Addr
structure NAt (H : Hp) (nl : Addr) (Rs : List ((Bool × Int) × Addr)) : Prop where
  l : H nl = some (.lst (Rs.map fun r => V.ref r.2))
  r : ∀ r ∈ Rs, H r.2 = some (.tup [.str (wayS r.1.1), .int r.1.2])
theorem NAt.same {H H' : Hp} {nl : Addr} {Rs : List ((Bool × Int) × Addr)} (h : NAt H nl Rs) (s : Same H H') : NAt H' nl Rs := ⟨s _ _ h.l, fun r m => s _ _ (h.r r m)⟩
structure EAt (c : F2.Cs) (H : Hp) (e : EN) : Prop where
  t : H e.t = some (.tup [.ref e.y, .ref e.nl])
  f : F2.FormAt c H e.F e.y
  n : NAt H e.nl e.Rs
theorem EAt.same {c : F2.Cs} {H H' : Hp} {e : EN} (h : EAt c H e) (s : Same H H') : EAt c H' e := ⟨s _ _ h.t, h.f.same s, h.n.same s⟩
structure EOk (n : Nat) (e : EN) : Prop where
  names : ∀ f, ((e.Rs.map Prod.fst).countP f : Int) = F2.tot (F2.ownN f) e.F
  ri : F2.RI n e.F
  le : e.Rs.length ≤ F2.nodes e.F
  rows : ∀ r ∈ e.Rs, 0 ≤ r.1.2 ∧ r.1.2.toNat < n
def spLeaf (c : F2.Cs) (K : PySem.W.Frag) : Sp := fun vs H Q _ => ∃ (cell target : Int) (la fa : Addr) (lens fit : List Int), vs = [.int cell, .ref la, .int target, .ref fa] ∧ SqL K H la (lens.map V.int) ∧ SqL K H fa (fit.map V.int) ∧ 1 ≤ lens.length ∧ lens.length ≤ 12 ∧ ∀ H' e, Same H H' → EAt c H' e → EOk lens.length e → F2.nodes e.F = 1 → Q (.ref e.t) H'
theorem ok_leaf {c : F2.Cs} (d : DefIn K mg "_law_leaf_by" s_l_leaf_by ["_law_cell", "_law_lengths", "_law_target", "_law_fit"]) (RB : Ok P w K mg base CX0 2 "_law_row_by" ["_law_cell", "_law_lengths", "_law_target", "_law_fit"] (spRB K)) (MH : MkN K c.here) (hCe : mg "Here" = some (.ref c.here)) (hCn : mg "Number" = some (.ref c.num)) (hCo : mg "Local" = some (.ref c.loc)) (hCc : mg "Cell" = some (.ref c.cell)) (hCh : mg "Shifted" = some (.ref c.shi))
    (IN : OkI P w K mg base (CXe P w base) 1 c.num ["self", "number"] (spI_Number c.num)) (IL : OkI P w K mg base (CXe P w base) 1 c.loc ["self", "at"] (spI_Local c.loc)) (IC : OkI P w K mg base (CXe P w base) 1 c.cell ["self", "row"] (spI_Cell c.cell)) (IH : OkI P w K mg base (CXe P w base) 1 c.shi ["self", "row", "by", "other"] (spI_Shifted c.shi)) :
    Ok P w K mg base CX0 3 "_law_leaf_by" ["_law_cell", "_law_lengths", "_law_target", "_law_fit"] (spLeaf c K) := by
  obtain ⟨g, fd, m, F, b⟩ := d
  refine ⟨g, fd, m, F.kp, b, F.ok sc_l_leaf_by (fun vs H Q E ⟨_, _, _, _, _, _, e, _⟩ => by rw [e]; rfl) fun cdv A outer s H vs Q E hr h => ?_⟩
  obtain ⟨cell, target, la, fa, lens, fit, rfl, hL, hF, l1, l12, q⟩ := h
  have nd := sc_l_leaf_by.nd
  have hr2 := hr
  have hr1 := hr.mono (show 1 ≤ 2 by decide)
  have bare : ∀ (J : Hp) (y : Addr) (G : F2.Fm), Same H J → F2.FormAt c J G y → F2.nodes G = 1 → F2.RI lens.length G → (∀ f, F2.tot (F2.ownN f) G = 0) → ∀ nl, J nl = none → ∀ t, upd J nl (.lst []) t = none → Q (.ref t) (upd (upd J nl (.lst [])) t (.tup [.ref y, .ref nl])) := fun J y G sJ fG nG rG tG nl nnl t nt => by
    have s1 := same_upd (o := .lst []) (Same.refl J) nnl
    have s2 := same_upd (o := .tup [.ref y, .ref nl]) (Same.refl _) nt
    refine q _ ⟨G, y, nl, [], t⟩ ((sJ.trans s1).trans s2) ⟨upd_same, (fG.same s1).same s2, s2 _ _ upd_same, fun r m => nomatch m⟩ ⟨fun f => (tG f).symm, rG, Nat.zero_le _, fun r m => nomatch m⟩ nG
  have named : ∀ (J : Hp) (y : Addr) (G : F2.Fm) (b : Bool) (r : Int), Same H J → F2.FormAt c J G y → F2.nodes G = 1 → F2.RI lens.length G → (∀ f, F2.tot (F2.ownN f) G = if f (b, r) = true then 1 else 0) → 0 ≤ r → r.toNat < lens.length → ∀ t1, J t1 = none → ∀ nl, upd J t1 (.tup [.str (wayS b), .int r]) nl = none → ∀ t, upd (upd J t1 (.tup [.str (wayS b), .int r])) nl (.lst [.ref t1]) t = none → Q (.ref t) (upd (upd (upd J t1 (.tup [.str (wayS b), .int r])) nl (.lst [.ref t1])) t (.tup [.ref y, .ref nl])) := fun J y G b r sJ fG nG rG tG r0 r1 t1 nt1 nl nnl t nt => by
    have s0 := same_upd (o := .tup [.str (wayS b), .int r]) (Same.refl J) nt1
    have s1 := same_upd (o := .lst [.ref t1]) (Same.refl _) nnl
    have s2 := same_upd (o := .tup [.ref y, .ref nl]) (Same.refl _) nt
    refine q _ ⟨G, y, nl, [((b, r), t1)], t⟩ (((sJ.trans s0).trans s1).trans s2) ⟨upd_same, ((fG.same s0).same s1).same s2, s2 _ _ upd_same, fun p m => by cases List.mem_singleton.mp m; exact s2 _ _ (s1 _ _ upd_same)⟩ ⟨fun f => ?_, rG, by rw [nG]; exact Nat.le_refl 1, fun p m => by cases List.mem_singleton.mp m; exact ⟨r0, r1⟩⟩ nG
    rw [tG]
    show ((List.countP f [(b, r)] : Nat) : Int) = _
    rw [List.countP_cons, List.countP_nil]
    by_cases z : f (b, r) = true
    · rw [if_pos z, if_pos z]; rfl
    · rw [if_neg z, if_neg z]; rfl
  refine ⟨_, (pss_cons (ps_set (i := 4) nd rfl (Or.inl rfl) (pe_op op_mod (pv 0) pe_int))
      (pss_cons (ps_set (i := 5) nd rfl (Or.inl rfl) (pe_op op_fdiv (pv 0) pe_int))
      (pss_cons (ps_if (pt_cmpR op_eq (pv 4) pe_int (nomark _)) (pss_one (ps_ret (pe_tup (pa_cons (pe_okI IN hCn hr2 (by rfl) passF (pa_cons (pe_op op_sub (pe_op op_mod (pv 5) pe_int) pe_int) pa_nil)) (pa_cons (pe_lst pa_nil) pa_nil))))) pss_nil)
      (pss_cons (ps_if (pt_cmpR op_eq (pv 4) pe_int (nomark _)) (pss_one (ps_ret (pe_tup (pa_cons (pe_makeN MH (by rfl) hCe) (pa_cons (pe_lst pa_nil) pa_nil))))) pss_nil)
      (pss_cons (ps_if (pt_cmpR op_eq (pv 4) pe_int (nomark _)) (pss_one (ps_ret (pe_tup (pa_cons (pe_okI IL hCo hr2 (by rfl) passF (pa_cons (pe_op op_mod (pv 5) pe_int) pa_nil)) (pa_cons (pe_lst pa_nil) pa_nil))))) pss_nil)
      (pss_cons (ps_if (pt_cmpR op_eq (pv 4) pe_int (nomark _)) (pss_cons (ps_set (i := 6) nd rfl (Or.inl rfl) (pe_ok RB hr2 (by rfl) pass0 (pa_cons (pv 5) (pa_cons (pv 1) (pa_cons (pv 2) (pa_cons (pv 1) pa_nil))))))
      (pss_one (ps_ret (pe_tup (pa_cons (pe_okI IH hCh hr2 (by rfl) passF (pa_cons (pv 6) (pa_cons (pe_op op_sub (pe_op op_mod (pe_op op_fdiv (pv 5) pe_int) pe_int) pe_int) (pa_cons pe_int pa_nil)))) (pa_cons (pe_lst (pa_cons (pe_tup (pa_cons pe_str (pa_cons (pv 6) pa_nil))) pa_nil)) pa_nil)))))) pss_nil)
      (pss_cons (ps_set (i := 6) nd rfl (Or.inl rfl) (pe_ok RB hr2 (by rfl) pass0 (pa_cons (pv 5) (pa_cons (pv 1) (pa_cons (pv 2) (pa_cons (pv 3) pa_nil))))))
      (pss_one (ps_ret (pe_tup (pa_cons (pe_okI IC hCc hr2 (by rfl) passF (pa_cons (pv 6) pa_nil)) (pa_cons (pe_lst (pa_cons (pe_tup (pa_cons pe_str (pa_cons (pv 6) pa_nil))) pa_nil)) pa_nil)))))))))))), ?_⟩
  refine ⟨_, rfl, _, _, rfl, rfl, (by show (0 : Int) < 6; decide), ?_⟩
  refine ⟨_, rfl, _, _, rfl, rfl, ⟨by decide, by decide⟩, ?_⟩
  refine ⟨_, rfl, rfl, _, rfl, ?_⟩
  refine ite2 (fun z => ?_) (fun z => ?_)
  · exact ⟨_, rfl, _, _, rfl, rfl, (by show (0 : Int) < 2001; decide), _, _, rfl, rfl, fun y dy ny ndy _ => ⟨y, dy, _, rfl, upd_same, fun J k e => ⟨rfl, (by show 0 ≤ sizeLine; decide), fun nl nnl => ⟨(by show 2 ≤ sizeLine; decide), fun t nt => bare J y (.num _) (made_same ny ndy k) ⟨dy, e⟩ (by unfold F2.nodes; rfl) (by unfold F2.RI; trivial) (fun f => by unfold F2.tot; rfl) nl nnl t nt⟩⟩⟩⟩
  clear z
  refine ⟨_, rfl, rfl, _, rfl, ?_⟩
  refine ite2 (fun z => ?_) (fun z => ?_)
  · exact fun y dy ny ndy _ => ⟨(by show 0 ≤ sizeLine; decide), fun nl nnl => ⟨(by show 2 ≤ sizeLine; decide), fun t nt => bare _ y .here (same_upd (same_upd (Same.refl _) ndy) ny) ⟨dy, upd_same⟩ (by unfold F2.nodes; rfl) (by unfold F2.RI; trivial) (fun f => by unfold F2.tot; rfl) nl nnl t nt⟩⟩
  clear z
  refine ⟨_, rfl, rfl, _, rfl, ?_⟩
  refine ite2 (fun z => ?_) (fun z => ?_)
  · exact ⟨_, rfl, _, _, rfl, rfl, (by show (0 : Int) < 6; decide), fun y dy ny ndy _ => ⟨y, dy, _, rfl, upd_same, fun J k e => ⟨rfl, (by show 0 ≤ sizeLine; decide), fun nl nnl => ⟨(by show 2 ≤ sizeLine; decide), fun t nt => bare J y (.loc _) (made_same ny ndy k) ⟨dy, e⟩ (by unfold F2.nodes; rfl) (by unfold F2.RI; trivial) (fun f => by unfold F2.tot; rfl) nl nnl t nt⟩⟩⟩⟩
  clear z
  refine ⟨_, rfl, rfl, _, rfl, ?_⟩
  refine ite2 (fun z => ?_) (fun z => ?_)
  · refine ⟨_, rfl, _, rfl, _, rfl, _, rfl, _, target, la, la, lens, lens, rfl, hL, hL, l1, l12, fun H1 r s1 r0 r1 => ?_⟩
    refine ⟨_, rfl, _, rfl, _, _, rfl, rfl, ⟨by decide, by decide⟩, _, _, rfl, rfl, (by show (0 : Int) < 801; decide), _, _, rfl, rfl, fun y dy ny ndy _ => ⟨y, dy, _, _, _, rfl, upd_same, fun J k e => ⟨rfl, _, rfl, (by show 2 ≤ sizeLine; decide), fun t1 nt1 => ⟨(by show 1 ≤ sizeLine; decide), fun nl nnl => ⟨(by show 2 ≤ sizeLine; decide), fun t nt => ?_⟩⟩⟩⟩⟩
    exact named J y (.shi r _ _) false r (s1.trans (made_same ny ndy k)) ⟨dy, e⟩ (by unfold F2.nodes; rfl) (by unfold F2.RI; trivial) (fun f => by unfold F2.tot; rfl) r0 r1 t1 nt1 nl nnl t nt
  · refine ⟨_, rfl, _, rfl, _, rfl, _, rfl, _, target, la, fa, lens, fit, rfl, hL, hF, l1, l12, fun H1 r s1 r0 r1 => ?_⟩
    refine ⟨_, rfl, fun y dy ny ndy _ => ⟨y, dy, _, rfl, upd_same, fun J k e => ⟨rfl, _, rfl, (by show 2 ≤ sizeLine; decide), fun t1 nt1 => ⟨(by show 1 ≤ sizeLine; decide), fun nl nnl => ⟨(by show 2 ≤ sizeLine; decide), fun t nt => ?_⟩⟩⟩⟩⟩
    exact named J y (.cell r) true r (s1.trans (made_same ny ndy k)) ⟨dy, e⟩ (by unfold F2.nodes; rfl) (by unfold F2.RI; exact ⟨r0, r1⟩) (fun f => by unfold F2.tot; rfl) r0 r1 t1 nt1 nl nnl t nt
end
end K20
namespace L2
open PySem PySem.Spec PyProof.Rows
theorem sIx_neg {n d k : Nat} {a : Int} (h : a = -(k : Int)) (h0 : 0 < k) (hk : k ≤ n) : HT.sIx n d (some a) = n - k := by
  subst h
  show (if -(k : Int) < 0 then (-(k : Int) + (n : Int)).toNat else min (-(k : Int)).toNat n) = n - k
  rw [if_pos (by omega)]; omega
theorem cut_hi (xs ys : List V) {k : Int} (h : k = -(ys.length : Int)) (h0 : 0 < ys.length) : cutV (xs ++ ys) none (some k) = xs := by
  unfold cutV
  rw [HT.sIx_none, sIx_neg h h0 (by rw [List.length_append]; omega), List.drop_zero, List.length_append, show xs.length + ys.length - ys.length - 0 = xs.length by omega, List.take_left]
theorem cut_lo (xs ys : List V) {k : Int} (h : k = -(ys.length : Int)) (h0 : 0 < ys.length) : cutV (xs ++ ys) (some k) none = ys := by
  unfold cutV
  rw [HT.sIx_none, sIx_neg h h0 (by rw [List.length_append]; omega), List.length_append, show xs.length + ys.length - ys.length = xs.length by omega, List.drop_left]
  exact List.take_of_length_le (by omega)
theorem sql_but {K : PySem.W.Frag} {H : Hp} {x C dx a : Addr} {fl : List (Str × V)} {xs : List V} (hx : H x = some (.ins C dx fl)) (ha : SqL K H a xs) : SqL K (but H [x]) a xs := by
  have ne : ∀ {o : HO}, H a = some o → o ≠ .ins C dx fl → a ∉ [x] := fun {o} z n m => by
    cases List.mem_singleton.mp m
    rw [hx] at z; injection z with z; exact n z.symm
  rcases ha with (z | ⟨o, z⟩) | z
  · exact .inl (.inl (but_of z (ne z (fun q => by cases q))))
  · exact .inl (.inr ⟨o, but_of z (ne z (fun q => by cases q))⟩)
  · exact .inr z
end L2
namespace K20
open PySem L2 FM ST
section
variable {P : Program} {w : World} {K : PySem.W.Frag} {mg : Str → Option Value} {base : Heap}
def spI_Call (K : PySem.W.Frag) (C : Addr) : Sp := fun vs H Q _ => ∃ (x dx h : Addr) (u0 : V) (xs : List V), vs = [.ref x, u0, .ref h] ∧ H x = some (.ins C dx []) ∧ SqL K H h xs ∧ ∀ H' l, H l = none → (∀ b o, b ≠ x → H b = some o → H' b = some o) → H' l = some (.lst xs) → H' x = some (.ins C dx [("at", u0), ("handed", .ref l)]) → Q .non H'
theorem okI_Call {C : Addr} (d : InitIn K C "Call.__init__" s_Call_init ["self", "at", "handed"]) (hlist : mg "list" = none) (cl : Cls K C) (n0 : NoAttr K C "at") (n1 : NoAttr K C "handed") : OkI P w K mg base (CXe P w base) 1 C ["self", "at", "handed"] (spI_Call K C) := by
  obtain ⟨f, fd, m, F, bd⟩ := d
  refine ⟨f, fd, m, bd, F.okE sc_Call_init (fun vs H Q E ⟨_, _, _, _, _, e, _⟩ => by rw [e]; rfl) fun cdv A outer s H vs Q E hr h => ?_⟩
  obtain ⟨x, dx, h, u0, xs, rfl, hx, hh, k⟩ := h
  refine ⟨_, (pss_cons (ps_fld (pv 0) (pv 1) rfl) (pss_one (ps_fld (pv 0) (pe_callTy call_list_of (by rfl) hlist PyProof.Rows.boot_list (pa_cons (pv 2) pa_nil)) rfl))), ?_⟩
  refine ⟨_, rfl, _, rfl, x, C, dx, [], rfl, hx, cl, n0, (by show 0 < 1000; decide), ?_⟩
  have h2 : SqL K (upd H x (.ins C dx [("at", u0)])) h xs := by
    rcases hh with (z | ⟨o, z⟩) | z
    · exact .inl (.inl (by rw [upd_ne (fun e => by subst e; rw [hx] at z; cases z)]; exact z))
    · exact .inl (.inr ⟨o, by rw [upd_ne (fun e => by subst e; rw [hx] at z; cases z)]; exact z⟩)
    · exact .inr z
  refine ⟨_, rfl, h, _, rfl, .inl h2, fun l nl => ?_⟩
  have nx : l ≠ x := fun e => by subst e; rw [upd_same] at nl; cases nl
  refine ⟨_, rfl, x, C, dx, [("at", u0)], rfl, (by rw [upd_ne (Ne.symm nx)]; exact upd_same), cl, n1, (by show 1 < 1000; decide), ?_⟩
  refine k _ l (by rw [upd_ne nx] at nl; exact nl) (fun b o nb z => ?_) (by rw [upd_ne nx]; exact upd_same) upd_same
  rw [upd_ne nb]
  have nl' : b ≠ l := fun e => by subst e; rw [upd_ne nb] at nl; rw [nl] at z; cases z
  rw [upd_ne nl', upd_ne nb]
  exact z
def spI_Till (K : PySem.W.Frag) (C : Addr) : Sp := fun vs H Q _ => ∃ (x dx a : Addr) (u0 u1 : V) (xs : List V), vs = [.ref x, u0, u1, .ref a] ∧ H x = some (.ins C dx []) ∧ SqL K H a xs ∧ ∀ H' l, H l = none → (∀ b o, b ≠ x → H b = some o → H' b = some o) → H' l = some (.lst xs) → H' x = some (.ins C dx [("target", u0), ("most", u1), ("steps", .ref l)]) → Q .non H'
theorem okI_Till {C : Addr} (d : InitIn K C "Till.__init__" s_Till_init ["self", "target", "most", "steps"]) (hlist : mg "list" = none) (cl : Cls K C) (n0 : NoAttr K C "target") (n1 : NoAttr K C "most") (n2 : NoAttr K C "steps") : OkI P w K mg base (CXe P w base) 1 C ["self", "target", "most", "steps"] (spI_Till K C) := by
  obtain ⟨f, fd, m, F, bd⟩ := d
  refine ⟨f, fd, m, bd, F.okE sc_Till_init (fun vs H Q E ⟨_, _, _, _, _, _, e, _⟩ => by rw [e]; rfl) fun cdv A outer s H vs Q E hr h => ?_⟩
  obtain ⟨x, dx, a, u0, u1, xs, rfl, hx, ha, k⟩ := h
  refine ⟨_, (pss_cons (ps_fld (pv 0) (pv 1) rfl)
      (pss_cons (ps_fld (pv 0) (pv 2) rfl)
      (pss_one (ps_fld (pv 0) (pe_callTy call_list_of (by rfl) hlist PyProof.Rows.boot_list (pa_cons (pv 3) pa_nil)) rfl)))), ?_⟩
  have h := Hd.but1 hx
  have ha := sql_but hx ha
  have nb : ∀ b' o, b' ≠ x → H b' = some o → but H [x] b' = some o := fun b' o n z => but_of z (fun e => n (List.mem_singleton.mp e))
  refine ⟨_, rfl, _, rfl, x, C, dx, [], rfl, h.get 0 rfl, cl, n0, (by show 0 < 1000; decide), ?_⟩
  have h := h.put (o' := .ins C dx [("target", u0)]) 0 rfl
  refine ⟨_, rfl, _, rfl, x, C, dx, [("target", u0)], rfl, h.get 0 rfl, cl, n1, (by show 1 < 1000; decide), ?_⟩
  have h := h.put (o' := .ins C dx [("target", u0), ("most", u1)]) 0 rfl
  refine ⟨_, rfl, a, _, rfl, .inl (h.sql ha), fun l nl => ?_⟩
  have nlx : l ≠ x := (ne_of_none (h.get 0 rfl) nl).symm
  have fr : H l = none := but_free (h.free nl) nlx
  have h := h.new (o := .lst xs) nl
  refine ⟨_, rfl, x, C, dx, [("target", u0), ("most", u1)], rfl, h.get 1 rfl, cl, n2, (by show 2 < 1000; decide), ?_⟩
  have h := h.put (o' := .ins C dx [("target", u0), ("most", u1), ("steps", .ref l)]) 1 rfl
  exact k _ l fr (fun b' o n z => h.sm _ _ (nb b' o n z)) (h.get 0 rfl) (h.get 1 rfl)
def spI_Let (C : Addr) : Sp := fun vs H Q _ => ∃ (x dx : Addr) (u0 u1 u2 : V), vs = [.ref x, u0, u1, u2] ∧ H x = some (.ins C dx []) ∧ ∀ H', (∀ b o, b ≠ x → H b = some o → H' b = some o) → H' x = some (.ins C dx [("target", u0), ("value", u1), ("test", u2)]) → Q .non H'
theorem okN_Let {C : Addr} (d : InitN K C "Let.__init__" s_Let_init ["self", "target", "value", "test"]) (cl : Cls K C) (n0 : NoAttr K C "target") (n1 : NoAttr K C "value") (n2 : NoAttr K C "test") : OkN P w K mg base (CXe P w base) 1 C ["self", "target", "value", "test"] (spI_Let C) := by
  obtain ⟨f, fd, m, F, bd, bn⟩ := d
  refine ⟨f, fd, m, bd, bn, F.okE sc_Let_init (fun vs H Q E ⟨_, _, _, _, _, e, _⟩ => by rw [e]; rfl) fun cdv A outer s H vs Q E hr h => ?_⟩
  obtain ⟨x, dx, u0, u1, u2, rfl, hx, k⟩ := h
  refine ⟨_, (pss_cons (ps_fld (pv 0) (pv 1) rfl) (pss_cons (ps_fld (pv 0) (pv 2) rfl) (pss_one (ps_fld (pv 0) (pv 3) rfl)))), ?_⟩
  refine ⟨_, rfl, _, rfl, x, C, dx, [], rfl, hx, cl, n0, (by show 0 < 1000; decide), ?_⟩
  refine ⟨_, rfl, _, rfl, x, C, dx, [("target", u0)], rfl, upd_same, cl, n1, (by show 1 < 1000; decide), ?_⟩
  refine ⟨_, rfl, _, rfl, x, C, dx, [("target", u0), ("value", u1)], rfl, upd_same, cl, n2, (by show 2 < 1000; decide), ?_⟩
  exact k _ (fun b o nb z => by
    rw [upd_ne nb, upd_ne nb, upd_ne nb]
    exact z) upd_same
def spI_Put (C : Addr) : Sp := fun vs H Q _ => ∃ (x dx : Addr) (u0 u1 u2 u3 u4 : V), vs = [.ref x, u0, u1, u2, u3, u4] ∧ H x = some (.ins C dx []) ∧ ∀ H', (∀ b o, b ≠ x → H b = some o → H' b = some o) → H' x = some (.ins C dx [("target", u0), ("value", u1), ("place", u2), ("many", u3), ("test", u4)]) → Q .non H'
theorem okN_Put {C : Addr} (d : InitN K C "Put.__init__" s_Put_init ["self", "target", "value", "place", "many", "test"]) (cl : Cls K C) (n0 : NoAttr K C "target") (n1 : NoAttr K C "value") (n2 : NoAttr K C "place") (n3 : NoAttr K C "many") (n4 : NoAttr K C "test") : OkN P w K mg base (CXe P w base) 1 C ["self", "target", "value", "place", "many", "test"] (spI_Put C) := by
  obtain ⟨f, fd, m, F, bd, bn⟩ := d
  refine ⟨f, fd, m, bd, bn, F.okE sc_Put_init (fun vs H Q E ⟨_, _, _, _, _, _, _, e, _⟩ => by rw [e]; rfl) fun cdv A outer s H vs Q E hr h => ?_⟩
  obtain ⟨x, dx, u0, u1, u2, u3, u4, rfl, hx, k⟩ := h
  refine ⟨_, (pss_cons (ps_fld (pv 0) (pv 1) rfl) (pss_cons (ps_fld (pv 0) (pv 2) rfl) (pss_cons (ps_fld (pv 0) (pv 3) rfl) (pss_cons (ps_fld (pv 0) (pv 4) rfl) (pss_one (ps_fld (pv 0) (pv 5) rfl)))))), ?_⟩
  refine ⟨_, rfl, _, rfl, x, C, dx, [], rfl, hx, cl, n0, (by show 0 < 1000; decide), ?_⟩
  refine ⟨_, rfl, _, rfl, x, C, dx, [("target", u0)], rfl, upd_same, cl, n1, (by show 1 < 1000; decide), ?_⟩
  refine ⟨_, rfl, _, rfl, x, C, dx, [("target", u0), ("value", u1)], rfl, upd_same, cl, n2, (by show 2 < 1000; decide), ?_⟩
  refine ⟨_, rfl, _, rfl, x, C, dx, [("target", u0), ("value", u1), ("place", u2)], rfl, upd_same, cl, n3, (by show 3 < 1000; decide), ?_⟩
  refine ⟨_, rfl, _, rfl, x, C, dx, [("target", u0), ("value", u1), ("place", u2), ("many", u3)], rfl, upd_same, cl, n4, (by show 4 < 1000; decide), ?_⟩
  exact k _ (fun b o nb z => by
    rw [upd_ne nb, upd_ne nb, upd_ne nb, upd_ne nb, upd_ne nb]
    exact z) upd_same
def spI_Fold (C : Addr) : Sp := fun vs H Q _ => ∃ (x dx : Addr) (u0 u1 u2 u3 u4 : V), vs = [.ref x, u0, u1, u2, u3, u4] ∧ H x = some (.ins C dx []) ∧ ∀ H', (∀ b o, b ≠ x → H b = some o → H' b = some o) → H' x = some (.ins C dx [("target", u0), ("fold", u1), ("value", u2), ("many", u3), ("test", u4)]) → Q .non H'
theorem okN_Fold {C : Addr} (d : InitN K C "Fold.__init__" s_Fold_init ["self", "target", "fold", "value", "many", "test"]) (cl : Cls K C) (n0 : NoAttr K C "target") (n1 : NoAttr K C "fold") (n2 : NoAttr K C "value") (n3 : NoAttr K C "many") (n4 : NoAttr K C "test") : OkN P w K mg base (CXe P w base) 1 C ["self", "target", "fold", "value", "many", "test"] (spI_Fold C) := by
  obtain ⟨f, fd, m, F, bd, bn⟩ := d
  refine ⟨f, fd, m, bd, bn, F.okE sc_Fold_init (fun vs H Q E ⟨_, _, _, _, _, _, _, e, _⟩ => by rw [e]; rfl) fun cdv A outer s H vs Q E hr h => ?_⟩
  obtain ⟨x, dx, u0, u1, u2, u3, u4, rfl, hx, k⟩ := h
  refine ⟨_, (pss_cons (ps_fld (pv 0) (pv 1) rfl) (pss_cons (ps_fld (pv 0) (pv 2) rfl) (pss_cons (ps_fld (pv 0) (pv 3) rfl) (pss_cons (ps_fld (pv 0) (pv 4) rfl) (pss_one (ps_fld (pv 0) (pv 5) rfl)))))), ?_⟩
  refine ⟨_, rfl, _, rfl, x, C, dx, [], rfl, hx, cl, n0, (by show 0 < 1000; decide), ?_⟩
  refine ⟨_, rfl, _, rfl, x, C, dx, [("target", u0)], rfl, upd_same, cl, n1, (by show 1 < 1000; decide), ?_⟩
  refine ⟨_, rfl, _, rfl, x, C, dx, [("target", u0), ("fold", u1)], rfl, upd_same, cl, n2, (by show 2 < 1000; decide), ?_⟩
  refine ⟨_, rfl, _, rfl, x, C, dx, [("target", u0), ("fold", u1), ("value", u2)], rfl, upd_same, cl, n3, (by show 3 < 1000; decide), ?_⟩
  refine ⟨_, rfl, _, rfl, x, C, dx, [("target", u0), ("fold", u1), ("value", u2), ("many", u3)], rfl, upd_same, cl, n4, (by show 4 < 1000; decide), ?_⟩
  exact k _ (fun b o nb z => by
    rw [upd_ne nb, upd_ne nb, upd_ne nb, upd_ne nb, upd_ne nb]
    exact z) upd_same
def spI_Running (C : Addr) : Sp := fun vs H Q _ => ∃ (x dx : Addr) (u0 u1 u2 u3 : V), vs = [.ref x, u0, u1, u2, u3] ∧ H x = some (.ins C dx []) ∧ ∀ H', (∀ b o, b ≠ x → H b = some o → H' b = some o) → H' x = some (.ins C dx [("target", u0), ("fold", u1), ("value", u2), ("test", u3)]) → Q .non H'
theorem okN_Running {C : Addr} (d : InitN K C "Running.__init__" s_Running_init ["self", "target", "fold", "value", "test"]) (cl : Cls K C) (n0 : NoAttr K C "target") (n1 : NoAttr K C "fold") (n2 : NoAttr K C "value") (n3 : NoAttr K C "test") : OkN P w K mg base (CXe P w base) 1 C ["self", "target", "fold", "value", "test"] (spI_Running C) := by
  obtain ⟨f, fd, m, F, bd, bn⟩ := d
  refine ⟨f, fd, m, bd, bn, F.okE sc_Running_init (fun vs H Q E ⟨_, _, _, _, _, _, e, _⟩ => by rw [e]; rfl) fun cdv A outer s H vs Q E hr h => ?_⟩
  obtain ⟨x, dx, u0, u1, u2, u3, rfl, hx, k⟩ := h
  refine ⟨_, (pss_cons (ps_fld (pv 0) (pv 1) rfl) (pss_cons (ps_fld (pv 0) (pv 2) rfl) (pss_cons (ps_fld (pv 0) (pv 3) rfl) (pss_one (ps_fld (pv 0) (pv 4) rfl))))), ?_⟩
  refine ⟨_, rfl, _, rfl, x, C, dx, [], rfl, hx, cl, n0, (by show 0 < 1000; decide), ?_⟩
  refine ⟨_, rfl, _, rfl, x, C, dx, [("target", u0)], rfl, upd_same, cl, n1, (by show 1 < 1000; decide), ?_⟩
  refine ⟨_, rfl, _, rfl, x, C, dx, [("target", u0), ("fold", u1)], rfl, upd_same, cl, n2, (by show 2 < 1000; decide), ?_⟩
  refine ⟨_, rfl, _, rfl, x, C, dx, [("target", u0), ("fold", u1), ("value", u2)], rfl, upd_same, cl, n3, (by show 3 < 1000; decide), ?_⟩
  exact k _ (fun b o nb z => by
    rw [upd_ne nb, upd_ne nb, upd_ne nb, upd_ne nb]
    exact z) upd_same
def wt (Es : List EN) : Nat := (Es.map fun e => F2.nodes e.F).sum
theorem wt_app (a b : List EN) : wt (a ++ b) = wt a + wt b := by unfold wt; rw [List.map_append, List.sum_append]
theorem wt_one (e : EN) : wt [e] = F2.nodes e.F := by unfold wt; simp
theorem wt_cons (e : EN) (r : List EN) : wt (e :: r) = F2.nodes e.F + wt r := by unfold wt; simp
theorem len_wt : ∀ Es : List EN, Es.length ≤ wt Es
  | [] => Nat.le_refl _
  | e :: r => by
    have := len_wt r
    rw [wt_cons, F2.nodes_eq, List.length_cons]; omega
theorem split_at {Es : List EN} (k : Nat) (h : k ≤ Es.length) : ∃ a b, Es = a ++ b ∧ b.length = k := ⟨Es.take (Es.length - k), Es.drop (Es.length - k), (List.take_append_drop _ _).symm, by rw [List.length_drop]; omega⟩
theorem split1 {Es : List EN} (h : 1 ≤ Es.length) : ∃ l a, Es = l ++ [a] := by
  obtain ⟨l, b, e, hb⟩ := split_at 1 h
  match b, hb with
  | [a], _ => exact ⟨l, a, e⟩
theorem split2 {Es : List EN} (h : 2 ≤ Es.length) : ∃ l a b, Es = l ++ [a, b] := by
  obtain ⟨l, b, e, hb⟩ := split_at 2 h
  match b, hb with
  | [a, b], _ => exact ⟨l, a, b, e⟩
theorem split3 {Es : List EN} (h : 3 ≤ Es.length) : ∃ l a b d, Es = l ++ [a, b, d] := by
  obtain ⟨l, b, e, hb⟩ := split_at 3 h
  match b, hb with
  | [a, b, d], _ => exact ⟨l, a, b, d, e⟩
abbrev lE (Es : List EN) : HO := .lst (Es.map fun e => V.ref e.t)
abbrev lR (Rs : List ((Bool × Int) × Addr)) : HO := .lst (Rs.map fun r => V.ref r.2)
def spPush (c : F2.Cs) (K : PySem.W.Frag) : Sp := fun vs H Q _ => ∃ (cell target : Int) (pl la fa : Addr) (lens fit : List Int) (Es : List EN), vs = [.int cell, .ref pl, .ref la, .int target, .ref fa] ∧ SqL K H la (lens.map V.int) ∧ SqL K H fa (fit.map V.int) ∧ 1 ≤ lens.length ∧ lens.length ≤ 12 ∧ H pl = some (lE Es) ∧ (∀ e ∈ Es, EAt c H e) ∧ (∀ e ∈ Es, EOk lens.length e) ∧ wt Es ≤ 500 ∧
  ∀ H' l' (Es' : List EN), Same H H' → H' l' = some (lE Es') → (∀ e ∈ Es', EAt c H' e) → (∀ e ∈ Es', EOk lens.length e) → wt Es' ≤ wt Es + 2 → Q (.ref l') H'
theorem cnt_app {a b : List ((Bool × Int) × Addr)} (f : Bool × Int → Bool) : (((a ++ b).map Prod.fst).countP f : Int) = ((a.map Prod.fst).countP f : Int) + ((b.map Prod.fst).countP f : Int) := by
  rw [List.map_append, List.countP_append]; omega
theorem NAt.cat {J : Hp} {n1 n2 nl : Addr} {R1 R2 : List ((Bool × Int) × Addr)} (h1 : NAt J n1 R1) (h2 : NAt J n2 R2) (nn : J nl = none) : NAt (upd J nl (.lst ((R1.map fun r => V.ref r.2) ++ (R2.map fun r => V.ref r.2)))) nl (R1 ++ R2) := by
  have s := same_upd (o := .lst ((R1.map fun r => V.ref r.2) ++ (R2.map fun r => V.ref r.2))) (Same.refl J) nn
  refine ⟨by rw [upd_same, List.map_append], fun r m => ?_⟩
  rcases List.mem_append.mp m with m | m
  · exact s _ _ (h1.r r m)
  · exact s _ _ (h2.r r m)
theorem EOk.at' {n : Nat} {a : EN} (h : EOk n a) {r : Int} (r0 : 0 ≤ r) (r1 : r.toNat < n) (y nl t1 t : Addr) : EOk n ⟨.at' r a.F, y, nl, a.Rs ++ [((false, r), t1)], t⟩ := by
  have en : F2.nodes (.at' r a.F) = F2.nodes a.F + 1 := by rw [F2.nodes_eq]; show (F2.nodes a.F + 0) + 1 = _; omega
  refine ⟨fun f => ?_, (by rw [F2.RI]; exact h.ri), (by show (a.Rs ++ [_]).length ≤ _; rw [List.length_append, en]; have := h.le; exact Nat.add_le_add this (Nat.le_refl 1)), fun p m => ?_⟩
  · show (((a.Rs ++ [((false, r), t1)]).map Prod.fst).countP f : Int) = F2.tot (F2.ownN f) (.at' r a.F)
    rw [cnt_app, h.names f, F2.tot_eq (.at' r a.F)]
    show _ + ((List.countP f [(false, r)] : Nat) : Int) = (if f (false, r) = true then 1 else 0) + (F2.tot (F2.ownN f) a.F + 0)
    rw [List.countP_cons, List.countP_nil]
    generalize F2.tot (F2.ownN f) a.F = z0
    by_cases z : f (false, r) = true
    · rw [if_pos z, if_pos z]; omega
    · rw [if_neg z, if_neg z]; omega
  · rcases List.mem_append.mp m with m | m
    · exact h.rows p m
    · cases List.mem_singleton.mp m; exact ⟨r0, r1⟩
theorem EOk.pair {n : Nat} {a b : EN} (ha : EOk n a) (hb : EOk n b) (sg : Str) (y nl t : Addr) : EOk n ⟨.pair sg a.F b.F, y, nl, a.Rs ++ b.Rs, t⟩ := by
  have en : F2.nodes (.pair sg a.F b.F) = F2.nodes a.F + F2.nodes b.F + 1 := by rw [F2.nodes_eq]; show (F2.nodes a.F + (F2.nodes b.F + 0)) + 1 = _; omega
  refine ⟨fun f => ?_, (by rw [F2.RI]; exact ⟨ha.ri, hb.ri⟩), (by show (a.Rs ++ b.Rs).length ≤ _; rw [List.length_append, en]; have := ha.le; have := hb.le; omega), fun p m => ?_⟩
  · show (((a.Rs ++ b.Rs).map Prod.fst).countP f : Int) = F2.tot (F2.ownN f) (.pair sg a.F b.F)
    rw [cnt_app, ha.names f, hb.names f, F2.tot_eq (.pair sg a.F b.F)]
    show _ = 0 + (F2.tot (F2.ownN f) a.F + (F2.tot (F2.ownN f) b.F + 0))
    omega
  · rcases List.mem_append.mp m with m | m
    · exact ha.rows p m
    · exact hb.rows p m
theorem EOk.cho {n : Nat} {a b d : EN} (ha : EOk n a) (hb : EOk n b) (hd : EOk n d) (y nl t : Addr) : EOk n ⟨.cho a.F b.F d.F, y, nl, (a.Rs ++ b.Rs) ++ d.Rs, t⟩ := by
  have en : F2.nodes (.cho a.F b.F d.F) = F2.nodes a.F + F2.nodes b.F + F2.nodes d.F + 1 := by rw [F2.nodes_eq]; show (F2.nodes a.F + (F2.nodes b.F + (F2.nodes d.F + 0))) + 1 = _; omega
  refine ⟨fun f => ?_, (by rw [F2.RI]; exact ⟨ha.ri, hb.ri, hd.ri⟩), (by show ((a.Rs ++ b.Rs) ++ d.Rs).length ≤ _; rw [List.length_append, List.length_append, en]; have := ha.le; have := hb.le; have := hd.le; omega), fun p m => ?_⟩
  · show ((((a.Rs ++ b.Rs) ++ d.Rs).map Prod.fst).countP f : Int) = F2.tot (F2.ownN f) (.cho a.F b.F d.F)
    rw [cnt_app, cnt_app, ha.names f, hb.names f, hd.names f, F2.tot_eq (.cho a.F b.F d.F)]
    show _ = 0 + (F2.tot (F2.ownN f) a.F + (F2.tot (F2.ownN f) b.F + (F2.tot (F2.ownN f) d.F + 0)))
    omega
  · rcases List.mem_append.mp m with m | m
    · rcases List.mem_append.mp m with m | m
      · exact ha.rows p m
      · exact hb.rows p m
    · exact hd.rows p m
theorem RI_call3 {n : Nat} {k : Int} {a b : F2.Fm} (ha : F2.RI n a) (hb : F2.RI n b) : F2.RI n (.call k (.cons a (.cons b (.cons .here .nil)))) := by
  have h0 : F2.RIs n .nil := by unfold F2.RIs; trivial
  have h1 : F2.RIs n (.cons .here .nil) := by unfold F2.RIs; exact ⟨by unfold F2.RI; trivial, h0⟩
  have h2 : F2.RIs n (.cons b (.cons .here .nil)) := by rw [F2.RIs]; exact ⟨hb, h1⟩
  have h3 : F2.RIs n (.cons a (.cons b (.cons .here .nil))) := by rw [F2.RIs]; exact ⟨ha, h2⟩
  rw [F2.RI]; exact h3
theorem EOk.call {n : Nat} {a b : EN} (ha : EOk n a) (hb : EOk n b) (k : Int) (y nl t : Addr) : EOk n ⟨.call k (.cons a.F (.cons b.F (.cons .here .nil))), y, nl, a.Rs ++ b.Rs, t⟩ := by
  have en : F2.nodes (.call k (.cons a.F (.cons b.F (.cons .here .nil)))) = F2.nodes a.F + F2.nodes b.F + 2 := by
    rw [F2.nodes_eq]
    show (F2.nodes a.F + (F2.nodes b.F + (F2.nodes .here + 0))) + 1 = _
    have : F2.nodes .here = 1 := by unfold F2.nodes; rfl
    omega
  refine ⟨fun f => ?_, (RI_call3 ha.ri hb.ri), (by show (a.Rs ++ b.Rs).length ≤ _; rw [List.length_append, en]; have := ha.le; have := hb.le; omega), fun p m => ?_⟩
  · show (((a.Rs ++ b.Rs).map Prod.fst).countP f : Int) = F2.tot (F2.ownN f) (.call k _)
    have : F2.tot (F2.ownN f) .here = 0 := by unfold F2.tot; rfl
    rw [cnt_app, ha.names f, hb.names f, F2.tot_eq (.call k _)]
    show _ = 0 + (F2.tot (F2.ownN f) a.F + (F2.tot (F2.ownN f) b.F + (F2.tot (F2.ownN f) .here + 0)))
    omega
  · rcases List.mem_append.mp m with m | m
    · exact ha.rows p m
    · exact hb.rows p m
theorem ok_pushed {c : F2.Cs} (d : DefIn K mg "_law_pushed" s_l_pushed ["_law_cell", "_law_pile", "_law_lengths", "_law_target", "_law_fit"]) (hlen : mg "len" = none) (LE : Ok P w K mg base CX0 3 "_law_leaf_by" ["_law_cell", "_law_lengths", "_law_target", "_law_fit"] (spLeaf c K)) (RB : Ok P w K mg base CX0 2 "_law_row_by" ["_law_cell", "_law_lengths", "_law_target", "_law_fit"] (spRB K)) (MH : MkN K c.here) (hCe : mg "Here" = some (.ref c.here)) (hCa : mg "At" = some (.ref c.at')) (hCp : mg "Pair" = some (.ref c.pair)) (hCi : mg "Choice" = some (.ref c.cho)) (hCk : mg "Call" = some (.ref c.call))
    (IA : OkI P w K mg base (CXe P w base) 1 c.at' ["self", "row", "place"] (spI_At c.at')) (IP : OkI P w K mg base (CXe P w base) 1 c.pair ["self", "sign", "left", "right"] (spI_Pair c.pair)) (IO : OkI P w K mg base (CXe P w base) 1 c.cho ["self", "test", "left", "right"] (spI_Choice c.cho)) (ICa : OkI P w K mg base (CXe P w base) 1 c.call ["self", "at", "handed"] (spI_Call K c.call)) :
    Ok P w K mg base CX0 4 "_law_pushed" ["_law_cell", "_law_pile", "_law_lengths", "_law_target", "_law_fit"] (spPush c K) := by
  obtain ⟨g, fd, m, F, b⟩ := d
  refine ⟨g, fd, m, F.kp, b, F.ok sc_l_pushed (fun vs H Q E ⟨_, _, _, _, _, _, _, _, e, _⟩ => by rw [e]; rfl) fun cdv A outer s H vs Q E hr h => ?_⟩
  obtain ⟨cell, target, pl, la, fa, lens, fit, Es, rfl, hL, hF, l1, l12, hp, hA, hO, hw, q⟩ := h
  have nd := sc_l_pushed.nd
  have hr3 := hr
  have hr2 := hr.mono (show 2 ≤ 3 by decide)
  have SL : (3000 : Nat) < sizeLine := by decide
  have lw := len_wt Es
  have fin : ∀ (J : Hp) (p : Addr) (Es0 : List EN) (e : EN), Same H J → (∀ r ∈ Es0, r ∈ Es) → EAt c J e → EOk lens.length e → wt Es0 + F2.nodes e.F ≤ wt Es + 2 → J p = none → Q (.ref p) (upd J p (.lst ((Es0.map fun e => V.ref e.t) ++ [.ref e.t]))) := fun J p Es0 e sJ sub eA eO ew np => by
    have s1 := same_upd (o := .lst ((Es0.map fun e => V.ref e.t) ++ [.ref e.t])) (Same.refl J) np
    refine q _ p (Es0 ++ [e]) (sJ.trans s1) (by rw [upd_same]; show _ = some (HO.lst _); rw [List.map_append]; rfl) (fun r hr => ?_) (fun r hr => ?_) (by rw [wt_app, wt_one]; exact ew)
    · rcases List.mem_append.mp hr with hr | hr
      · exact (hA r (sub r hr)).same (sJ.trans s1)
      · cases List.mem_singleton.mp hr; exact eA.same s1
    · rcases List.mem_append.mp hr with hr | hr
      · exact hO r (sub r hr)
      · cases List.mem_singleton.mp hr; exact eO
  have close : ∀ (J : Hp) (Es0 : List EN) (z y nl : Addr) (G : F2.Fm) (Rs : List ((Bool × Int) × Addr)), Same H J → (∀ r ∈ Es0, r ∈ Es) → J z = some (lE Es0) → F2.FormAt c J G y → NAt J nl Rs → (∀ t, EOk lens.length ⟨G, y, nl, Rs, t⟩) → wt Es0 + F2.nodes G ≤ wt Es + 2 → ∀ t, J t = none → ∀ zl, upd J t (.tup [.ref y, .ref nl]) zl = none → ∃ l b xs zs, V.ref z = .ref l ∧ V.ref zl = .ref b ∧ upd (upd J t (.tup [.ref y, .ref nl])) zl (.lst [.ref t]) l = some (.lst xs) ∧ upd (upd J t (.tup [.ref y, .ref nl])) zl (.lst [.ref t]) b = some (.lst zs) ∧ xs.length + zs.length ≤ sizeLine ∧ ∀ p, upd (upd J t (.tup [.ref y, .ref nl])) zl (.lst [.ref t]) p = none → Q (.ref p) (upd (upd (upd J t (.tup [.ref y, .ref nl])) zl (.lst [.ref t])) p (.lst (xs ++ zs))) := fun J Es0 z y nl G Rs sJ sub ez fG nA eO ew t nt zl nzl => by
    have s1 := same_upd (o := .tup [.ref y, .ref nl]) (Same.refl J) nt
    have e1 : upd J t (.tup [.ref y, .ref nl]) t = some (.tup [.ref y, .ref nl]) := upd_same
    generalize upd J t (.tup [.ref y, .ref nl]) = J1 at s1 e1 nzl ⊢
    have s2 := same_upd (o := .lst [.ref t]) (Same.refl J1) nzl
    have e2 : upd J1 zl (.lst [.ref t]) zl = some (.lst [.ref t]) := upd_same
    generalize upd J1 zl (.lst [.ref t]) = J2 at s2 e2 ⊢
    have lw0 := len_wt Es0
    refine ⟨z, zl, _, _, rfl, rfl, s2 _ _ (s1 _ _ ez), e2, (by rw [List.length_map]; show _ + 1 ≤ _; omega), fun p np => ?_⟩
    exact fin J2 p Es0 ⟨G, y, nl, Rs, t⟩ ((sJ.trans s1).trans s2) sub ⟨s2 _ _ e1, (fG.same s1).same s2, (nA.same s1).same s2⟩ (eO t) ew np
  have cmp : ∀ (k : Int) (n : Nat), k < ((Es.map fun e => V.ref e.t).length : Int) → k = (n : Int) → n + 1 ≤ Es.length := fun k n h e => by rw [List.length_map] at h; omega
  refine ⟨_, (pss_cons (ps_set (i := 5) nd rfl (Or.inl rfl) (pe_op op_mod (pv 0) pe_int))
      (pss_cons (ps_set (i := 6) nd rfl (Or.inl rfl) (pe_op op_fdiv (pv 0) pe_int))
      (pss_cons (ps_if (pt_mid (pw_and (pt_cmpR op_eq (pv 5) pe_int (nomark _)) (pw_and1 (pt_cmpR op_gt (pe_callB call_len_seq (by rfl) hlen PySem.boot_len (pa_cons (pv 1) pa_nil)) pe_int (nomark _)))).pt) (pss_cons (ps_set (i := 7) nd rfl (Or.inl rfl) (pe_ok RB hr2 (by rfl) pass0 (pa_cons (pv 6) (pa_cons (pv 2) (pa_cons (pv 3) (pa_cons (pv 2) pa_nil))))))
      (pss_cons (ps_set (i := 8) nd rfl (Or.inl rfl) (pe_ix ix_list (pv 1) (pe_un un_neg pe_int) (fun _ _ => rfl)))
      (pss_one (ps_ret (pe_op op_cat (pe_slice sl_list (pv 1) po_none (po_some (pe_un un_neg pe_int))) (pe_lst (pa_cons (pe_tup (pa_cons (pe_okI IA hCa hr2 (by rfl) passF (pa_cons (pv 7) (pa_cons (pe_ix ix_tup (pv 8) pe_int (fun _ _ => rfl)) pa_nil))) (pa_cons (pe_op op_cat (pe_ix ix_tup (pv 8) pe_int (fun _ _ => rfl)) (pe_lst (pa_cons (pe_tup (pa_cons pe_str (pa_cons (pv 7) pa_nil))) pa_nil))) pa_nil))) pa_nil))))))) pss_nil)
      (pss_cons (ps_if (pt_mid (pw_and (pt_cmpR op_eq (pv 5) pe_int (nomark _)) (pw_and1 (pt_cmpR op_gt (pe_callB call_len_seq (by rfl) hlen PySem.boot_len (pa_cons (pv 1) pa_nil)) pe_int (nomark _)))).pt) (pss_cons (ps_asg (pe_slice sl_list (pv 1) (po_some (pe_un un_neg pe_int)) po_none) (pg_lst rfl (pgs_cons (pg_name (i := 9) nd rfl (Or.inl rfl)) (pgs_cons (pg_name (i := 10) nd rfl (Or.inl rfl)) pgs_nil))))
      (pss_one (ps_ret (pe_op op_cat (pe_slice sl_list (pv 1) po_none (po_some (pe_un un_neg pe_int))) (pe_lst (pa_cons (pe_tup (pa_cons (pe_okI IP hCp hr2 (by rfl) passF (pa_cons pe_str (pa_cons (pe_ix ix_tup (pv 9) pe_int (fun _ _ => rfl)) (pa_cons (pe_ix ix_tup (pv 10) pe_int (fun _ _ => rfl)) pa_nil)))) (pa_cons (pe_op op_cat (pe_ix ix_tup (pv 9) pe_int (fun _ _ => rfl)) (pe_ix ix_tup (pv 10) pe_int (fun _ _ => rfl))) pa_nil))) pa_nil)))))) pss_nil)
      (pss_cons (ps_if (pt_mid (pw_and (pt_cmpR op_eq (pv 5) pe_int (nomark _)) (pw_and1 (pt_cmpR op_gt (pe_callB call_len_seq (by rfl) hlen PySem.boot_len (pa_cons (pv 1) pa_nil)) pe_int (nomark _)))).pt) (pss_cons (ps_asg (pe_slice sl_list (pv 1) (po_some (pe_un un_neg pe_int)) po_none) (pg_lst rfl (pgs_cons (pg_name (i := 11) nd rfl (Or.inl rfl)) (pgs_cons (pg_name (i := 9) nd rfl (Or.inl rfl)) (pgs_cons (pg_name (i := 10) nd rfl (Or.inl rfl)) pgs_nil)))))
      (pss_cons (ps_set (i := 12) nd rfl (Or.inl rfl) (pe_okI IO hCi hr2 (by rfl) passF (pa_cons (pe_ix ix_tup (pv 11) pe_int (fun _ _ => rfl)) (pa_cons (pe_ix ix_tup (pv 9) pe_int (fun _ _ => rfl)) (pa_cons (pe_ix ix_tup (pv 10) pe_int (fun _ _ => rfl)) pa_nil)))))
      (pss_one (ps_ret (pe_op op_cat (pe_slice sl_list (pv 1) po_none (po_some (pe_un un_neg pe_int))) (pe_lst (pa_cons (pe_tup (pa_cons (pv 12) (pa_cons (pe_op op_cat (pe_op op_cat (pe_ix ix_tup (pv 11) pe_int (fun _ _ => rfl)) (pe_ix ix_tup (pv 9) pe_int (fun _ _ => rfl))) (pe_ix ix_tup (pv 10) pe_int (fun _ _ => rfl))) pa_nil))) pa_nil))))))) pss_nil)
      (pss_cons (ps_if (pt_mid (pw_and (pt_cmpR op_eq (pv 5) pe_int (nomark _)) (pw_and1 (pt_cmpR op_gt (pe_callB call_len_seq (by rfl) hlen PySem.boot_len (pa_cons (pv 1) pa_nil)) pe_int (nomark _)))).pt) (pss_cons (ps_asg (pe_slice sl_list (pv 1) (po_some (pe_un un_neg pe_int)) po_none) (pg_lst rfl (pgs_cons (pg_name (i := 9) nd rfl (Or.inl rfl)) (pgs_cons (pg_name (i := 10) nd rfl (Or.inl rfl)) pgs_nil))))
      (pss_cons (ps_set (i := 12) nd rfl (Or.inl rfl) (pe_okI ICa hCk hr2 (by rfl) passF (pa_cons (pe_op op_mod (pv 6) pe_int) (pa_cons (pe_lst (pa_cons (pe_ix ix_tup (pv 9) pe_int (fun _ _ => rfl)) (pa_cons (pe_ix ix_tup (pv 10) pe_int (fun _ _ => rfl)) (pa_cons (pe_makeN MH (by rfl) hCe) pa_nil)))) pa_nil))))
      (pss_one (ps_ret (pe_op op_cat (pe_slice sl_list (pv 1) po_none (po_some (pe_un un_neg pe_int))) (pe_lst (pa_cons (pe_tup (pa_cons (pv 12) (pa_cons (pe_op op_cat (pe_ix ix_tup (pv 9) pe_int (fun _ _ => rfl)) (pe_ix ix_tup (pv 10) pe_int (fun _ _ => rfl))) pa_nil))) pa_nil))))))) pss_nil)
      (pss_one (ps_ret (pe_op op_cat (pv 1) (pe_lst (pa_cons (pe_ok LE hr3 (by rfl) pass0 (pa_cons (pv 6) (pa_cons (pv 2) (pa_cons (pv 3) (pa_cons (pv 4) pa_nil))))) pa_nil))))))))))), ?_⟩
  refine ⟨_, rfl, _, _, rfl, rfl, (by show (0 : Int) < 7; decide), ?_⟩
  refine ⟨_, rfl, _, _, rfl, rfl, ⟨by decide, by decide⟩, ?_⟩
  refine ⟨fun b J => J = H ∧ (b = true → 1 ≤ Es.length), ?_, ?_⟩
  · refine ⟨_, rfl, rfl, _, rfl, ?_⟩
    refine ite2 (fun z => ?_) (fun z => ⟨rfl, fun e => by cases e⟩)
    exact ⟨_, rfl, pl, _, rfl, .inl (SqL.of hp), _, _, rfl, rfl, _, rfl, rfl, fun z => cmp 0 0 (by simpa using z) rfl⟩
  rintro b J ⟨rfl, hb⟩
  cases b with
  | true =>
    obtain ⟨Es0, a, rfl⟩ := split1 (hb rfl)
    have am : a ∈ Es0 ++ [a] := List.mem_append_right _ List.mem_cons_self
    have sub : ∀ r ∈ Es0, r ∈ Es0 ++ [a] := fun r hr => List.mem_append_left _ hr
    have aA := hA a am
    have aO := hO a am
    have ew : wt (Es0 ++ [a]) = wt Es0 + F2.nodes a.F := by rw [wt_app, wt_one]
    have al' := aO.le
    refine iteT ⟨_, rfl, _, rfl, _, rfl, _, rfl, _, target, la, la, lens, lens, rfl, hL, hL, l1, l12, fun H1 r s1 r0 r1 => ?_⟩
    have al : atI ((Es0 ++ [a]).map fun e => V.ref e.t) (-1) = some (.ref a.t) := by rw [List.map_append]; exact atI_last _ _
    refine ⟨_, rfl, _, rfl, pl, _, _, _, rfl, rfl, SqL.of (s1 _ _ hp), al, ?_⟩
    refine ⟨_, rfl, _, rfl, _, rfl, pl, _, rfl, SqL.of (s1 _ _ hp), fun z nz => ?_⟩
    have ez : cutV ((Es0 ++ [a]).map fun e => V.ref e.t) none (some (-1)) = Es0.map fun e => V.ref e.t := by rw [List.map_append]; exact cut_hi _ _ rfl (Nat.succ_pos _)
    rw [ez]
    have s2 := same_upd (o := lE Es0) (Same.refl H1) nz
    have e2 : upd H1 z (lE Es0) z = some (lE Es0) := upd_same
    generalize upd H1 z (lE Es0) = H2 at s2 e2
    have s12 := s1.trans s2
    refine ⟨_, rfl, _, rfl, a.t, _, 0, .ref a.y, rfl, rfl, SqT.of (s12 _ _ aA.t), rfl, fun y dy ny ndy _ => ⟨y, dy, _, _, rfl, upd_same, fun H3 k3 e3 => ⟨rfl, ?_⟩⟩⟩
    have s3 := made_same ny ndy k3
    have s13 := s12.trans s3
    refine ⟨_, rfl, a.t, _, 1, .ref a.nl, rfl, rfl, SqT.of (s13 _ _ aA.t), rfl, _, rfl, (by show 2 ≤ sizeLine; decide), fun t1 nt1 => ⟨(by show 1 ≤ sizeLine; decide), fun t2 nt2 => ?_⟩⟩
    have s4 := same_upd (o := .tup [.str "far", .int r]) (Same.refl H3) nt1
    have e4 : upd H3 t1 (.tup [.str "far", .int r]) t1 = some (.tup [.str "far", .int r]) := upd_same
    generalize upd H3 t1 (.tup [.str "far", .int r]) = H4 at s4 e4 nt2
    have s5 := same_upd (o := .lst [.ref t1]) (Same.refl H4) nt2
    have n5 : NAt (upd H4 t2 (.lst [.ref t1])) t2 [((false, r), t1)] := ⟨upd_same, fun p m => by cases List.mem_singleton.mp m; exact s5 _ _ e4⟩
    generalize upd H4 t2 (.lst [.ref t1]) = H5 at s5 n5
    have s35 := s4.trans s5
    have s15 := s13.trans s35
    have aN := aA.n.same s15
    refine ⟨a.nl, t2, _, _, rfl, rfl, aN.l, n5.l, (by rw [List.length_map]; show _ + 1 ≤ _; omega), fun nl nnl => ?_⟩
    have n6 := aN.cat n5 nnl
    have s6 := same_upd (o := .lst ((a.Rs.map fun r => V.ref r.2) ++ ([((false, r), t1)].map fun r => V.ref r.2))) (Same.refl H5) nnl
    refine ⟨(by show 2 ≤ sizeLine; decide), fun t nt => ⟨(by show 1 ≤ sizeLine; decide), fun zl nzl => ?_⟩⟩
    refine close _ Es0 z y nl (.at' r a.F) _ (s15.trans s6) sub (s6 _ _ (s35 _ _ (s3 _ _ e2))) ((show F2.FormAt c H3 (.at' r a.F) y from ⟨dy, a.y, e3, aA.f.same s13⟩).same (s35.trans s6)) n6 (fun t => aO.at' r0 r1 y nl t1 t) ?_ t nt zl nzl
    rw [ew, F2.nodes_eq]
    show wt Es0 + ((F2.nodes a.F + 0) + 1) ≤ _
    omega
  | false =>
  clear hb
  refine iteF ?_
  refine ⟨fun b J' => J' = J ∧ (b = true → 2 ≤ Es.length), ?_, ?_⟩
  · refine ⟨_, rfl, rfl, _, rfl, ?_⟩
    refine ite2 (fun z => ?_) (fun z => ⟨rfl, fun e => by cases e⟩)
    exact ⟨_, rfl, pl, _, rfl, .inl (SqL.of hp), _, _, rfl, rfl, _, rfl, rfl, fun z => cmp 1 1 (by simpa using z) rfl⟩
  rintro b J' ⟨rfl, hb⟩
  cases b with
  | true =>
    obtain ⟨Es0, a, b, rfl⟩ := split2 (hb rfl)
    have aA := hA a (List.mem_append_right _ List.mem_cons_self)
    have aO := hO a (List.mem_append_right _ List.mem_cons_self)
    have bA := hA b (List.mem_append_right _ (List.mem_cons_of_mem _ List.mem_cons_self))
    have bO := hO b (List.mem_append_right _ (List.mem_cons_of_mem _ List.mem_cons_self))
    have sub : ∀ r ∈ Es0, r ∈ Es0 ++ [a, b] := fun r hr => List.mem_append_left _ hr
    have ew : wt (Es0 ++ [a, b]) = wt Es0 + (F2.nodes a.F + F2.nodes b.F) := by rw [wt_app, wt_cons, wt_one]
    have al' := aO.le
    have bl' := bO.le
    refine iteT ⟨_, rfl, _, rfl, _, rfl, pl, _, rfl, SqL.of hp, fun z0 nz0 => ?_⟩
    have ez0 : cutV ((Es0 ++ [a, b]).map fun e => V.ref e.t) (some (-2)) none = [.ref a.t, .ref b.t] := by rw [List.map_append]; exact cut_lo _ _ rfl (Nat.succ_pos _)
    rw [ez0]
    have s1 := same_upd (o := .lst [.ref a.t, .ref b.t]) (Same.refl J') nz0
    refine ⟨z0, _, rfl, SqL.of upd_same, rfl, _, _, rfl, _, _, rfl, rfl, ?_⟩
    generalize upd J' z0 (.lst [.ref a.t, .ref b.t]) = H1 at s1
    refine ⟨_, rfl, _, rfl, _, rfl, pl, _, rfl, SqL.of (s1 _ _ hp), fun z nz => ?_⟩
    have ez : cutV ((Es0 ++ [a, b]).map fun e => V.ref e.t) none (some (-2)) = Es0.map fun e => V.ref e.t := by rw [List.map_append]; exact cut_hi _ _ rfl (Nat.succ_pos _)
    rw [ez]
    have s2 := same_upd (o := lE Es0) (Same.refl H1) nz
    have e2 : upd H1 z (lE Es0) z = some (lE Es0) := upd_same
    generalize upd H1 z (lE Es0) = H2 at s2 e2
    have s12 := s1.trans s2
    refine ⟨_, rfl, a.t, _, 0, .ref a.y, rfl, rfl, SqT.of (s12 _ _ aA.t), rfl, _, rfl, b.t, _, 0, .ref b.y, rfl, rfl, SqT.of (s12 _ _ bA.t), rfl, fun y dy ny ndy _ => ⟨y, dy, _, _, _, rfl, upd_same, fun H3 k3 e3 => ⟨rfl, ?_⟩⟩⟩
    have s3 := made_same ny ndy k3
    have s13 := s12.trans s3
    have aN := aA.n.same s13
    have bN := bA.n.same s13
    refine ⟨_, rfl, a.t, _, 1, .ref a.nl, rfl, rfl, SqT.of (s13 _ _ aA.t), rfl, _, rfl, b.t, _, 1, .ref b.nl, rfl, rfl, SqT.of (s13 _ _ bA.t), rfl, a.nl, b.nl, _, _, rfl, rfl, aN.l, bN.l, (by rw [List.length_map, List.length_map]; omega), fun nl nnl => ?_⟩
    have n6 := aN.cat bN nnl
    have s6 := same_upd (o := .lst ((a.Rs.map fun r => V.ref r.2) ++ (b.Rs.map fun r => V.ref r.2))) (Same.refl H3) nnl
    refine ⟨(by show 2 ≤ sizeLine; decide), fun t nt => ⟨(by show 1 ≤ sizeLine; decide), fun zl nzl => ?_⟩⟩
    refine close _ Es0 z y nl (.pair "-" a.F b.F) _ (s13.trans s6) sub (s6 _ _ (s3 _ _ e2)) ((show F2.FormAt c H3 (.pair "-" a.F b.F) y from ⟨dy, a.y, b.y, e3, aA.f.same s13, bA.f.same s13⟩).same s6) n6 (fun t => aO.pair bO "-" y nl t) ?_ t nt zl nzl
    rw [ew, F2.nodes_eq]
    show wt Es0 + ((F2.nodes a.F + (F2.nodes b.F + 0)) + 1) ≤ _
    omega
  | false =>
  clear hb
  refine iteF ?_
  refine ⟨fun b J => J = J' ∧ (b = true → 3 ≤ Es.length), ?_, ?_⟩
  · refine ⟨_, rfl, rfl, _, rfl, ?_⟩
    refine ite2 (fun z => ?_) (fun z => ⟨rfl, fun e => by cases e⟩)
    exact ⟨_, rfl, pl, _, rfl, .inl (SqL.of hp), _, _, rfl, rfl, _, rfl, rfl, fun z => cmp 2 2 (by simpa using z) rfl⟩
  rintro b J ⟨rfl, hb⟩
  cases b with
  | true =>
    obtain ⟨Es0, a, b, d, rfl⟩ := split3 (hb rfl)
    have aA := hA a (List.mem_append_right _ List.mem_cons_self)
    have aO := hO a (List.mem_append_right _ List.mem_cons_self)
    have bA := hA b (List.mem_append_right _ (List.mem_cons_of_mem _ List.mem_cons_self))
    have bO := hO b (List.mem_append_right _ (List.mem_cons_of_mem _ List.mem_cons_self))
    have dA := hA d (List.mem_append_right _ (List.mem_cons_of_mem _ (List.mem_cons_of_mem _ List.mem_cons_self)))
    have dO := hO d (List.mem_append_right _ (List.mem_cons_of_mem _ (List.mem_cons_of_mem _ List.mem_cons_self)))
    have sub : ∀ r ∈ Es0, r ∈ Es0 ++ [a, b, d] := fun r hr => List.mem_append_left _ hr
    have ew : wt (Es0 ++ [a, b, d]) = wt Es0 + (F2.nodes a.F + (F2.nodes b.F + F2.nodes d.F)) := by rw [wt_app, wt_cons, wt_cons, wt_one]
    have al' := aO.le
    have bl' := bO.le
    have dl' := dO.le
    refine iteT ⟨_, rfl, _, rfl, _, rfl, pl, _, rfl, SqL.of hp, fun z0 nz0 => ?_⟩
    have ez0 : cutV ((Es0 ++ [a, b, d]).map fun e => V.ref e.t) (some (-3)) none = [.ref a.t, .ref b.t, .ref d.t] := by rw [List.map_append]; exact cut_lo _ _ rfl (Nat.succ_pos _)
    rw [ez0]
    have s1 := same_upd (o := .lst [.ref a.t, .ref b.t, .ref d.t]) (Same.refl J) nz0
    refine ⟨z0, _, rfl, SqL.of upd_same, rfl, _, _, rfl, _, _, rfl, _, _, rfl, rfl, ?_⟩
    generalize upd J z0 (.lst [.ref a.t, .ref b.t, .ref d.t]) = H1 at s1
    refine ⟨_, rfl, a.t, _, 0, .ref a.y, rfl, rfl, SqT.of (s1 _ _ aA.t), rfl, _, rfl, b.t, _, 0, .ref b.y, rfl, rfl, SqT.of (s1 _ _ bA.t), rfl, _, rfl, d.t, _, 0, .ref d.y, rfl, rfl, SqT.of (s1 _ _ dA.t), rfl, fun y dy ny ndy _ => ⟨y, dy, _, _, _, rfl, upd_same, fun H3 k3 e3 => ⟨rfl, ?_⟩⟩⟩
    have s3 := made_same ny ndy k3
    have s13 := s1.trans s3
    have fy : F2.FormAt c H3 (.cho a.F b.F d.F) y := ⟨dy, a.y, b.y, d.y, e3, aA.f.same s13, bA.f.same s13, dA.f.same s13⟩
    refine ⟨_, rfl, _, rfl, _, rfl, pl, _, rfl, SqL.of (s13 _ _ hp), fun z nz => ?_⟩
    have ez : cutV ((Es0 ++ [a, b, d]).map fun e => V.ref e.t) none (some (-3)) = Es0.map fun e => V.ref e.t := by rw [List.map_append]; exact cut_hi _ _ rfl (Nat.succ_pos _)
    rw [ez]
    have s4 := same_upd (o := lE Es0) (Same.refl H3) nz
    have e4 : upd H3 z (lE Es0) z = some (lE Es0) := upd_same
    generalize upd H3 z (lE Es0) = H4 at s4 e4
    have s14 := s13.trans s4
    have aN := aA.n.same s14
    have bN := bA.n.same s14
    refine ⟨_, rfl, _, rfl, a.t, _, 1, .ref a.nl, rfl, rfl, SqT.of (s14 _ _ aA.t), rfl, _, rfl, b.t, _, 1, .ref b.nl, rfl, rfl, SqT.of (s14 _ _ bA.t), rfl, a.nl, b.nl, _, _, rfl, rfl, aN.l, bN.l, (by rw [List.length_map, List.length_map]; omega), fun nl0 nnl0 => ?_⟩
    have n5 := aN.cat bN nnl0
    have s5 := same_upd (o := .lst ((a.Rs.map fun r => V.ref r.2) ++ (b.Rs.map fun r => V.ref r.2))) (Same.refl H4) nnl0
    generalize upd H4 nl0 (.lst ((a.Rs.map fun r => V.ref r.2) ++ (b.Rs.map fun r => V.ref r.2))) = H5 at s5 n5
    have dN := dA.n.same (s14.trans s5)
    have l5 := n5.l
    rw [List.map_append] at l5
    refine ⟨_, rfl, d.t, _, 1, .ref d.nl, rfl, rfl, SqT.of ((s14.trans s5) _ _ dA.t), rfl, nl0, d.nl, _, _, rfl, rfl, l5, dN.l, (by rw [List.length_append, List.length_map, List.length_map, List.length_map]; omega), fun nl nnl => ?_⟩
    have n6 := n5.cat dN nnl
    rw [List.map_append] at n6
    have s6 := same_upd (o := .lst (((a.Rs.map fun r => V.ref r.2) ++ (b.Rs.map fun r => V.ref r.2)) ++ (d.Rs.map fun r => V.ref r.2))) (Same.refl H5) nnl
    refine ⟨(by show 2 ≤ sizeLine; decide), fun t nt => ⟨(by show 1 ≤ sizeLine; decide), fun zl nzl => ?_⟩⟩
    refine close _ Es0 z y nl (.cho a.F b.F d.F) _ ((s14.trans s5).trans s6) sub (s6 _ _ (s5 _ _ e4)) (((fy.same s4).same s5).same s6) n6 (fun t => aO.cho bO dO y nl t) ?_ t nt zl nzl
    rw [ew, F2.nodes_eq]
    show wt Es0 + ((F2.nodes a.F + (F2.nodes b.F + (F2.nodes d.F + 0))) + 1) ≤ _
    omega
  | false =>
  clear hb
  refine iteF ?_
  refine ⟨fun b J' => J' = J ∧ (b = true → 2 ≤ Es.length), ?_, ?_⟩
  · refine ⟨_, rfl, rfl, _, rfl, ?_⟩
    refine ite2 (fun z => ?_) (fun z => ⟨rfl, fun e => by cases e⟩)
    exact ⟨_, rfl, pl, _, rfl, .inl (SqL.of hp), _, _, rfl, rfl, _, rfl, rfl, fun z => cmp 1 1 (by simpa using z) rfl⟩
  rintro b J' ⟨rfl, hb⟩
  cases b with
  | true =>
    obtain ⟨Es0, a, b, rfl⟩ := split2 (hb rfl)
    have aA := hA a (List.mem_append_right _ List.mem_cons_self)
    have aO := hO a (List.mem_append_right _ List.mem_cons_self)
    have bA := hA b (List.mem_append_right _ (List.mem_cons_of_mem _ List.mem_cons_self))
    have bO := hO b (List.mem_append_right _ (List.mem_cons_of_mem _ List.mem_cons_self))
    have sub : ∀ r ∈ Es0, r ∈ Es0 ++ [a, b] := fun r hr => List.mem_append_left _ hr
    have ew : wt (Es0 ++ [a, b]) = wt Es0 + (F2.nodes a.F + F2.nodes b.F) := by rw [wt_app, wt_cons, wt_one]
    have al' := aO.le
    have bl' := bO.le
    refine iteT ⟨_, rfl, _, rfl, _, rfl, pl, _, rfl, SqL.of hp, fun z0 nz0 => ?_⟩
    have ez0 : cutV ((Es0 ++ [a, b]).map fun e => V.ref e.t) (some (-2)) none = [.ref a.t, .ref b.t] := by rw [List.map_append]; exact cut_lo _ _ rfl (Nat.succ_pos _)
    rw [ez0]
    have s1 := same_upd (o := .lst [.ref a.t, .ref b.t]) (Same.refl J') nz0
    refine ⟨z0, _, rfl, SqL.of upd_same, rfl, _, _, rfl, _, _, rfl, rfl, ?_⟩
    generalize upd J' z0 (.lst [.ref a.t, .ref b.t]) = H1 at s1
    refine ⟨_, rfl, _, _, rfl, rfl, (by show (0 : Int) < 8; decide), _, rfl, a.t, _, 0, .ref a.y, rfl, rfl, SqT.of (s1 _ _ aA.t), rfl, _, rfl, b.t, _, 0, .ref b.y, rfl, rfl, SqT.of (s1 _ _ bA.t), rfl, fun yh dyh nyh ndyh _ => ?_⟩
    have s2 : Same H1 (upd (upd H1 dyh (.own yh)) yh (.ins c.here dyh [])) := same_upd (same_upd (Same.refl _) ndyh) nyh
    have fh : F2.FormAt c (upd (upd H1 dyh (.own yh)) yh (.ins c.here dyh [])) .here yh := ⟨dyh, upd_same⟩
    generalize upd (upd H1 dyh (.own yh)) yh (.ins c.here dyh []) = H2 at s2 fh ⊢
    refine ⟨(by show 3 ≤ sizeLine; decide), fun hl nhl => ?_⟩
    have s3 := same_upd (o := .lst [.ref a.y, .ref b.y, .ref yh]) (Same.refl H2) nhl
    have e3 : upd H2 hl (.lst [.ref a.y, .ref b.y, .ref yh]) hl = some (.lst [.ref a.y, .ref b.y, .ref yh]) := upd_same
    generalize upd H2 hl (.lst [.ref a.y, .ref b.y, .ref yh]) = H3 at s3 e3
    refine fun y dy ny ndy ne => ⟨y, dy, hl, _, [.ref a.y, .ref b.y, .ref yh], rfl, upd_same, ?_⟩
    have s3' : Same H3 (upd (upd H3 dy (.own y)) y (.ins c.call dy [])) := same_upd (same_upd (Same.refl _) ndy) ny
    refine ⟨SqL.of (s3' _ _ e3), fun H4 l4 nl4 k4 e4 e4' => ⟨rfl, ?_⟩⟩
    have s4 := made_same ny ndy k4
    have s13 := s1.trans s2
    have s14 := (s13.trans s3).trans s4
    have fy : F2.FormAt c H4 (.call ((cell / 7) % 8) (.cons a.F (.cons b.F (.cons .here .nil)))) y := ⟨dy, l4, [a.y, b.y, yh], e4', e4, a.y, [b.y, yh], rfl, aA.f.same s14, b.y, [yh], rfl, bA.f.same s14, yh, [], rfl, (fh.same s3).same s4, rfl⟩
    refine ⟨_, rfl, _, rfl, _, rfl, pl, _, rfl, SqL.of (s14 _ _ hp), fun z nz => ?_⟩
    have ez : cutV ((Es0 ++ [a, b]).map fun e => V.ref e.t) none (some (-2)) = Es0.map fun e => V.ref e.t := by rw [List.map_append]; exact cut_hi _ _ rfl (Nat.succ_pos _)
    rw [ez]
    have s5 := same_upd (o := lE Es0) (Same.refl H4) nz
    have e5 : upd H4 z (lE Es0) z = some (lE Es0) := upd_same
    generalize upd H4 z (lE Es0) = H5 at s5 e5
    have s15 := s14.trans s5
    have aN := aA.n.same s15
    have bN := bA.n.same s15
    refine ⟨_, rfl, _, rfl, a.t, _, 1, .ref a.nl, rfl, rfl, SqT.of (s15 _ _ aA.t), rfl, _, rfl, b.t, _, 1, .ref b.nl, rfl, rfl, SqT.of (s15 _ _ bA.t), rfl, a.nl, b.nl, _, _, rfl, rfl, aN.l, bN.l, (by rw [List.length_map, List.length_map]; omega), fun nl nnl => ?_⟩
    have n6 := aN.cat bN nnl
    have s6 := same_upd (o := .lst ((a.Rs.map fun r => V.ref r.2) ++ (b.Rs.map fun r => V.ref r.2))) (Same.refl H5) nnl
    refine ⟨(by show 2 ≤ sizeLine; decide), fun t nt => ⟨(by show 1 ≤ sizeLine; decide), fun zl nzl => ?_⟩⟩
    refine close _ Es0 z y nl _ _ (s15.trans s6) sub (s6 _ _ e5) ((fy.same s5).same s6) n6 (fun t => aO.call bO _ y nl t) ?_ t nt zl nzl
    rw [ew, F2.nodes_eq]
    have : F2.nodes .here = 1 := by unfold F2.nodes; rfl
    show wt Es0 + ((F2.nodes a.F + (F2.nodes b.F + (F2.nodes .here + 0))) + 1) ≤ _
    omega
  | false =>
  refine iteF ⟨_, rfl, _, rfl, _, rfl, _, rfl, _, rfl, _, target, la, fa, lens, fit, rfl, hL, hF, l1, l12, fun H1 e s1 eA eO en => ⟨(by show 1 ≤ sizeLine; decide), fun zl nzl => ?_⟩⟩
  have s2 := same_upd (o := .lst [.ref e.t]) (Same.refl H1) nzl
  refine ⟨pl, zl, _, _, rfl, rfl, s2 _ _ (s1 _ _ hp), upd_same, (by rw [List.length_map]; show _ + 1 ≤ _; omega), fun p np => ?_⟩
  exact fin _ p Es e (s1.trans s2) (fun r hr => hr) (eA.same s2) eO (by omega) np
end
end K20
namespace K20
open PySem L2 FM ST
theorem dI' (a b : Int) : (decide (V.int a = V.int b) = true) ↔ a = b := by rw [intEq]; simp
theorem EOk.any {n : Nat} {e : EN} (h : EOk n e) (f : Bool × Int → Bool) : (e.Rs.map Prod.fst).any f = F2.hit f e.F := by
  unfold F2.hit
  rw [← h.names f]
  cases z : (e.Rs.map Prod.fst).any f with
  | true =>
    obtain ⟨a, m, fa⟩ := List.any_eq_true.mp z
    have := List.countP_pos_iff.mpr ⟨a, m, fa⟩
    exact (decide_eq_true (by omega)).symm
  | false =>
    have e0 : (e.Rs.map Prod.fst).countP f = 0 := List.countP_eq_zero.mpr fun a m fa => by
      rw [List.any_eq_true.mpr ⟨a, m, fa⟩] at z; cases z
    rw [e0]; rfl
def kdOf (kind many : Int) (p : F2.Fm) : Kd := if kind = 0 then .let' else if kind = 1 then .put p many else if kind = 2 then .fold "chain" many else .run "sum"
def stepOf (kind target many : Int) (a b d : F2.Fm) (tested : Bool) : StepD := ⟨target, a, if tested then some d else none, kdOf kind many b⟩
def namedOf (kind : Int) (tested : Bool) (a b d : List ((Bool × Int) × Addr)) : List ((Bool × Int) × Addr) := (a ++ if kind = 1 then b else []) ++ if tested then d else []
def udOf (kind target many : Int) (lens : List Int) (Rs : List ((Bool × Int) × Addr)) : Bool := (decide (kind = 2) && !decide (lens.getD target.toNat 0 = 1)) || (Rs.map Prod.fst).any (fU lens many)
def cdOf (kind target : Int) (Rs : List ((Bool × Int) × Addr)) : Bool := (Rs.map Prod.fst).any (fX (decide (kind = 1) || decide (kind = 2)) target)
theorem named_any {n : Nat} {kind target many : Int} {tested : Bool} {a b d : EN} (k0 : 0 ≤ kind) (k4 : kind < 4) (ha : EOk n a) (hb : EOk n b) (hd : EOk n d) (f : Bool × Int → Bool) :
    ((namedOf kind tested a.Rs b.Rs d.Rs).map Prod.fst).any f = (formsOfS (stepOf kind target many a.F b.F d.F tested)).any (F2.hit f) := by
  unfold namedOf formsOfS stepOf
  rw [List.map_append, List.map_append, List.any_append, List.any_append, List.any_append, List.any_append, ha.any f]
  have e1 : ((if kind = 1 then b.Rs else []).map Prod.fst).any f = (placeL (kdOf kind many b.F)).any (F2.hit f) := by
    by_cases z : kind = 1
    · subst z
      rw [if_pos rfl, hb.any f]
      show _ = (F2.hit f b.F || false)
      rw [Bool.or_false]
    · rw [if_neg z]
      unfold kdOf
      rw [if_neg z]
      by_cases y : kind = 0
      · rw [if_pos y]; rfl
      · rw [if_neg y]
        by_cases x : kind = 2
        · rw [if_pos x]; rfl
        · rw [if_neg x]; rfl
  have e2 : ((if tested = true then d.Rs else []).map Prod.fst).any f = ((if tested = true then some d.F else none).toList).any (F2.hit f) := by
    cases tested with
    | true =>
      rw [if_pos rfl, if_pos rfl, hd.any f]
      show _ = (F2.hit f d.F || false)
      rw [Bool.or_false]
    | false => rfl
  rw [e1]
  have e0 : ([a.F]).any (F2.hit f) = F2.hit f a.F := by show (F2.hit f a.F || false) = _; rw [Bool.or_false]
  show _ = (([a.F]).any (F2.hit f) || _ || _)
  rw [e0]
  congr 1
theorem ud_is {n : Nat} {kind target many : Int} {tested : Bool} {a b d : EN} {lens : List Int} (k0 : 0 ≤ kind) (k4 : kind < 4) (hm : kind = 0 ∨ kind = 3 → many = lens.getD target.toNat 0) (ha : EOk n a) (hb : EOk n b) (hd : EOk n d) :
    udOf kind target many lens (namedOf kind tested a.Rs b.Rs d.Rs) = unevenS lens (stepOf kind target many a.F b.F d.F tested) := by
  unfold udOf unevenS
  rw [named_any (target := target) (many := many) k0 k4 ha hb hd]
  have e1 : manyOf lens (stepOf kind target many a.F b.F d.F tested) = many := by
    unfold manyOf stepOf kdOf
    by_cases y : kind = 0
    · rw [hm (.inl y)]; simp [y]
    · by_cases z : kind = 1
      · simp [z]
      · by_cases x : kind = 2
        · simp [x]
        · rw [hm (.inr (by omega))]; simp [x, y, z]
  have e2 : isF (stepOf kind target many a.F b.F d.F tested).kind = decide (kind = 2) := by
    unfold stepOf kdOf
    by_cases y : kind = 0
    · simp [y, isF]
    · by_cases z : kind = 1
      · simp [z, isF]
      · by_cases x : kind = 2
        · simp [x, isF]
        · simp [x, y, z, isF]
  rw [e1, e2]
  rfl
theorem cd_is {n : Nat} {kind target many : Int} {tested : Bool} {a b d : EN} (k0 : 0 ≤ kind) (k4 : kind < 4) (ha : EOk n a) (hb : EOk n b) (hd : EOk n d) :
    cdOf kind target (namedOf kind tested a.Rs b.Rs d.Rs) = crossS (stepOf kind target many a.F b.F d.F tested) := by
  unfold cdOf crossS
  rw [named_any (target := target) (many := many) k0 k4 ha hb hd]
  have e2 : (isP (stepOf kind target many a.F b.F d.F tested).kind || isF (stepOf kind target many a.F b.F d.F tested).kind) = (decide (kind = 1) || decide (kind = 2)) := by
    unfold stepOf kdOf
    by_cases y : kind = 0
    · simp [y, isF, isP]
    · by_cases z : kind = 1
      · simp [z, isF, isP]
      · by_cases x : kind = 2
        · simp [x, isF, isP]
        · simp [x, y, z, isF, isP]
  rw [e2]
  rfl
section
variable {P : Program} {w : World} {K : PySem.W.Frag} {mg : Str → Option Value} {base : Heap}
def spStepBy (c : F2.Cs) (q : Scs) : Sp := fun vs H Q _ => ∃ (kind target many : Int) (fo : Addr) (tested : Bool) (a b d : EN), vs = [.int kind, .int target, .int many, .ref fo, .bl tested] ∧ H fo = some (.lst [.ref a.t, .ref b.t, .ref d.t]) ∧ EAt c H a ∧ EAt c H b ∧ EAt c H d ∧ ∀ H' x, Same H H' → StepAt c q H' (stepOf kind target many a.F b.F d.F tested) x → Q (.ref x) H'
theorem ok_stepBy {c : F2.Cs} {q : Scs} (d : DefIn K mg "_law_step_by" s_l_step_by ["_law_kind", "_law_target", "_law_many", "_law_found", "_law_tested"]) (hCl : mg "Let" = some (.ref q.let_)) (hCt : mg "Put" = some (.ref q.put)) (hCf : mg "Fold" = some (.ref q.fold)) (hCr : mg "Running" = some (.ref q.run))
    (IL2 : OkN P w K mg base (CXe P w base) 1 q.let_ ["self", "target", "value", "test"] (spI_Let q.let_)) (IPu2 : OkN P w K mg base (CXe P w base) 1 q.put ["self", "target", "value", "place", "many", "test"] (spI_Put q.put)) (IF2 : OkN P w K mg base (CXe P w base) 1 q.fold ["self", "target", "fold", "value", "many", "test"] (spI_Fold q.fold)) (IR2 : OkN P w K mg base (CXe P w base) 1 q.run ["self", "target", "fold", "value", "test"] (spI_Running q.run)) :
    Ok P w K mg base CX0 3 "_law_step_by" ["_law_kind", "_law_target", "_law_many", "_law_found", "_law_tested"] (spStepBy c q) := by
  obtain ⟨g, fd, m, F, b⟩ := d
  refine ⟨g, fd, m, F.kp, b, F.ok sc_l_step_by (fun vs H Q E ⟨_, _, _, _, _, _, _, _, e, _⟩ => by rw [e]; rfl) fun cdv A outer s H vs Q E hr h => ?_⟩
  obtain ⟨kind, target, many, fo, tested, a, b, d, rfl, hf, hA, hB, hD, k⟩ := h
  have nd := sc_l_step_by.nd
  have hr2 := hr
  have IL3 := IL2.all
  have IPu3 := IPu2.all
  have IF3 := IF2.all
  have IR3 := IR2.all
  generalize etv : (if tested then V.ref d.y else V.non) = tv
  have fin : ∀ (J : Hp) (x dx p : Addr), Same H J → J x = some (.ins (q.of (kdOf kind many b.F)) dx (ST.fieldsOf (stepOf kind target many a.F b.F d.F tested) a.y p tv)) → (∀ F m, kdOf kind many b.F = .put F m → F2.FormAt c J F p) → Q (.ref x) J := fun J x dx p sJ ex fp => by
    refine k J x sJ ⟨dx, a.y, p, tv, ex, hA.f.same sJ, ?_, fp⟩
    cases tested with
    | true =>
      show ∃ u, tv = .ref u ∧ F2.FormAt c J d.F u
      exact ⟨d.y, etv.symm, hD.f.same sJ⟩
    | false => exact etv.symm
  have sa : SqL K H fo [.ref a.t, .ref b.t, .ref d.t] := SqL.of hf
  refine ⟨_, (pss_cons (ps_set (i := 5) nd rfl (Or.inl rfl) pe_non)
      (pss_cons (ps_mid (ps_if (pt_val (pv 4)) (pss_one (ps_set (i := 5) nd rfl (Or.inl rfl) (pe_ix ix_tup (pe_ix ix_list (pv 3) pe_int (fun _ _ => rfl)) pe_int (fun _ _ => rfl)))) pss_nil))
      (pss_cons (ps_if (pt_cmpR op_eq (pv 0) pe_int (nomark _)) (pss_cons (ps_if (pt_val (pv 4)) (pss_one (ps_ret (pe_okI IL3 hCl hr2 (by rfl) passF (pa_cons (pv 1) (pa_cons (pe_ix ix_tup (pe_ix ix_list (pv 3) pe_int (fun _ _ => rfl)) pe_int (fun _ _ => rfl)) (pa_cons (pv 5) pa_nil)))))) pss_nil)
      (pss_one (ps_ret (pe_okN IL2 hCl hr2 (by rfl) passF (pa_cons (pv 1) (pa_cons (pe_ix ix_tup (pe_ix ix_list (pv 3) pe_int (fun _ _ => rfl)) pe_int (fun _ _ => rfl)) pa_nil)))))) pss_nil)
      (pss_cons (ps_if (pt_cmpR op_eq (pv 0) pe_int (nomark _)) (pss_one (ps_ret (pe_okI IPu3 hCt hr2 (by rfl) passF (pa_cons (pv 1) (pa_cons (pe_ix ix_tup (pe_ix ix_list (pv 3) pe_int (fun _ _ => rfl)) pe_int (fun _ _ => rfl)) (pa_cons (pe_ix ix_tup (pe_ix ix_list (pv 3) pe_int (fun _ _ => rfl)) pe_int (fun _ _ => rfl)) (pa_cons (pv 2) (pa_cons (pv 5) pa_nil)))))))) pss_nil)
      (pss_cons (ps_if (pt_cmpR op_eq (pv 0) pe_int (nomark _)) (pss_one (ps_ret (pe_okI IF3 hCf hr2 (by rfl) passF (pa_cons (pv 1) (pa_cons pe_str (pa_cons (pe_ix ix_tup (pe_ix ix_list (pv 3) pe_int (fun _ _ => rfl)) pe_int (fun _ _ => rfl)) (pa_cons (pv 2) (pa_cons (pv 5) pa_nil)))))))) pss_nil)
      (pss_one (ps_ret (pe_okI IR3 hCr hr2 (by rfl) passF (pa_cons (pv 1) (pa_cons pe_str (pa_cons (pe_ix ix_tup (pe_ix ix_list (pv 3) pe_int (fun _ _ => rfl)) pe_int (fun _ _ => rfl)) (pa_cons (pv 5) pa_nil)))))))))))), ?_⟩
  refine ⟨fun σ' H' => H' = H ∧ σ' = [some (.int kind), some (.int target), some (.int many), some (.ref fo), some (.bl tested), some tv], ?_, ?_⟩
  · refine ⟨_, rfl, _, rfl, ?_⟩
    cases tested with
    | true =>
      refine iteT ⟨_, rfl, fo, _, _, _, rfl, rfl, sa, rfl, d.t, _, 0, .ref d.y, rfl, rfl, SqT.of hD.t, rfl, rfl, ?_⟩
      rw [← etv]; rfl
    | false => exact iteF ⟨rfl, by rw [← etv]; rfl⟩
  rintro σ' H' ⟨rfl, rfl⟩
  refine ⟨_, rfl, rfl, _, rfl, ?_⟩
  refine ite2 (fun z => ?_) (fun z => ?_)
  · have z := (dI' _ _).mp z
    have ek : kdOf kind many b.F = .let' := by unfold kdOf; rw [if_pos z]
    refine ⟨_, rfl, _, rfl, ?_⟩
    cases tested with
    | true =>
      refine iteT ⟨_, rfl, _, rfl, fo, _, _, _, rfl, rfl, sa, rfl, a.t, _, 0, .ref a.y, rfl, rfl, SqT.of hA.t, rfl, _, rfl, fun y dy ny ndy _ => ⟨y, dy, _, _, _, rfl, upd_same, fun J kk e => ⟨rfl, fin J y dy 0 (made_same ny ndy kk) ?_ ?_⟩⟩⟩
      · rw [e]; unfold ST.fieldsOf stepOf; rw [ek]; rfl
      · intro F m e; rw [ek] at e; cases e
    | false =>
      refine iteF ⟨_, rfl, _, rfl, fo, _, _, _, rfl, rfl, sa, rfl, a.t, _, 0, .ref a.y, rfl, rfl, SqT.of hA.t, rfl, fun y dy ny ndy _ => ⟨y, dy, _, _, _, rfl, upd_same, fun J kk e => ⟨rfl, fin J y dy 0 (made_same ny ndy kk) ?_ ?_⟩⟩⟩
      · rw [e]; unfold ST.fieldsOf stepOf; rw [ek, ← etv]; rfl
      · intro F m e; rw [ek] at e; cases e
  have n0 : ¬ kind = 0 := fun e => z ((dI' _ _).mpr e)
  clear z
  refine ⟨_, rfl, rfl, _, rfl, ?_⟩
  refine ite2 (fun z => ?_) (fun z => ?_)
  · have z := (dI' _ _).mp z
    have ek : kdOf kind many b.F = .put b.F many := by unfold kdOf; rw [if_neg n0, if_pos z]
    refine ⟨_, rfl, _, rfl, fo, _, _, _, rfl, rfl, sa, rfl, a.t, _, 0, .ref a.y, rfl, rfl, SqT.of hA.t, rfl, _, rfl, fo, _, _, _, rfl, rfl, sa, rfl, b.t, _, 0, .ref b.y, rfl, rfl, SqT.of hB.t, rfl, _, rfl, _, rfl, fun y dy ny ndy _ => ⟨y, dy, _, _, _, _, _, rfl, upd_same, fun J kk e => ⟨rfl, fin J y dy b.y (made_same ny ndy kk) ?_ ?_⟩⟩⟩
    · rw [e]; unfold ST.fieldsOf stepOf; rw [ek]; rfl
    · intro F m e; rw [ek] at e; cases e; exact hB.f.same (made_same ny ndy kk)
  have n1 : ¬ kind = 1 := fun e => z ((dI' _ _).mpr e)
  clear z
  refine ⟨_, rfl, rfl, _, rfl, ?_⟩
  refine ite2 (fun z => ?_) (fun z => ?_)
  · have z := (dI' _ _).mp z
    have ek : kdOf kind many b.F = .fold "chain" many := by unfold kdOf; rw [if_neg n0, if_neg n1, if_pos z]
    refine ⟨_, rfl, _, rfl, fo, _, _, _, rfl, rfl, sa, rfl, a.t, _, 0, .ref a.y, rfl, rfl, SqT.of hA.t, rfl, _, rfl, _, rfl, fun y dy ny ndy _ => ⟨y, dy, _, _, _, _, _, rfl, upd_same, fun J kk e => ⟨rfl, fin J y dy 0 (made_same ny ndy kk) ?_ ?_⟩⟩⟩
    · rw [e]; unfold ST.fieldsOf stepOf; rw [ek]; rfl
    · intro F m e; rw [ek] at e; cases e
  have n2 : ¬ kind = 2 := fun e => z ((dI' _ _).mpr e)
  have ek : kdOf kind many b.F = .run "sum" := by unfold kdOf; rw [if_neg n0, if_neg n1, if_neg n2]
  refine ⟨_, rfl, _, rfl, fo, _, _, _, rfl, rfl, sa, rfl, a.t, _, 0, .ref a.y, rfl, rfl, SqT.of hA.t, rfl, _, rfl, fun y dy ny ndy _ => ⟨y, dy, _, _, _, _, rfl, upd_same, fun J kk e => ⟨rfl, fin J y dy 0 (made_same ny ndy kk) ?_ ?_⟩⟩⟩
  · rw [e]; unfold ST.fieldsOf stepOf; rw [ek]; rfl
  · intro F m e; rw [ek] at e; cases e
def spDue (K : PySem.W.Frag) : Sp := fun vs H Q _ => ∃ (kind target many : Int) (la nl : Addr) (lens : List Int) (Rs : List ((Bool × Int) × Addr)), vs = [.int kind, .int target, .int many, .ref la, .ref nl] ∧ SqL K H la (lens.map V.int) ∧ 0 ≤ target ∧ target.toNat < lens.length ∧ NAt H nl Rs ∧ (∀ r ∈ Rs, 0 ≤ r.1.2 ∧ r.1.2.toNat < lens.length) ∧ ∀ H' t, Same H H' → H' t = some (.tup [.bl (udOf kind target many lens Rs), .bl (cdOf kind target Rs)]) → Q (.ref t) H'
theorem ok_due (d : DefIn K mg "_law_due" s_l_due ["_law_kind", "_law_target", "_law_many", "_law_lengths", "_law_named"]) : Ok P w K mg base CX0 1 "_law_due" ["_law_kind", "_law_target", "_law_many", "_law_lengths", "_law_named"] (spDue K) := by
  obtain ⟨g, fd, m, F, b⟩ := d
  refine ⟨g, fd, m, F.kp, b, F.ok sc_l_due (fun vs H Q E ⟨_, _, _, _, _, _, _, e, _⟩ => by rw [e]; rfl) fun cdv A outer s H vs Q E hr h => ?_⟩
  obtain ⟨kind, target, many, la, nl, lens, Rs, rfl, hL, t0, t1, hN, hR, k⟩ := h
  have nd := sc_l_due.nd
  refine ⟨_, (pss_cons (ps_mid (ps_set (i := 5) nd rfl (Or.inl rfl) (pe_and (pe_cmpR op_eq (pv 0) pe_int (nomark _)) (pe_one (pe_cmpR op_ne (pe_ix ix_list (pv 3) (pv 1) (fun _ _ => rfl)) pe_int (nomark _))))))
      (pss_cons (ps_set (i := 6) nd rfl (Or.inl rfl) pe_bl)
      (pss_cons (ps_for PassesOwn.never rfl (pi_list (pv 4)) (pg_tup rfl (pgs_cons (pg_name (i := 7) nd rfl (Or.inl rfl)) (pgs_cons (pg_name (i := 8) nd rfl (Or.inl rfl)) pgs_nil))) (pss_cons (ps_mid (ps_if (pw_and (pt_cmpR op_eq (pv 7) pe_str (nomark _)) (pw_and (pt_cmpR op_ne (pe_ix ix_list (pv 3) (pv 8) (fun _ _ => rfl)) (pv 2) (nomark _)) (pw_and1 (pt_cmpR op_ne (pe_ix ix_list (pv 3) (pv 8) (fun _ _ => rfl)) pe_int (nomark _))))).pt (pss_one (ps_set (i := 5) nd rfl (Or.inl rfl) pe_bl)) pss_nil))
      (pss_one (ps_if (pw_and (pt_cmpR op_eq (pv 8) (pv 1) (nomark _)) (pw_and1 (pw_or (pt_cmpR op_eq (pv 7) pe_str (nomark _)) (pw_or (pt_cmpR op_eq (pv 0) pe_int (nomark _)) (pw_or1 (pt_cmpR op_eq (pv 0) pe_int (nomark _))))).pt)).pt (pss_one (ps_set (i := 6) nd rfl (Or.inl rfl) pe_bl)) pss_nil))))
      (pss_one (ps_ret (pe_tup (pa_cons (pv 5) (pa_cons (pv 6) pa_nil)))))))), ?_⟩
  generalize eu : (decide (kind = 2) && !decide (lens.getD target.toNat 0 = 1)) = u0
  refine ⟨fun σ' H' => H' = H ∧ σ' = [some (.int kind), some (.int target), some (.int many), some (.ref la), some (.ref nl), some (.bl u0), none, none, none], ?_, ?_⟩
  · refine ⟨_, rfl, rfl, _, rfl, ?_⟩
    refine ite2 (fun z => ?_) (fun z => ?_)
    · have z := (dI' _ _).mp z
      refine ⟨_, rfl, _, rfl, la, _, _, _, rfl, rfl, hL, at_int target.toNat t1 (by omega), rfl, rfl, ?_⟩
      rw [← eu, decide_eq_true z, Bool.true_and, intEq]
      rfl
    · have z : ¬ kind = 2 := fun e => z ((dI' _ _).mpr e)
      refine ⟨rfl, ?_⟩
      rw [← eu, decide_eq_false z, Bool.false_and]
      rfl
  rintro σ' H' ⟨rfl, rfl⟩
  refine ⟨_, rfl, nl, rfl, ⟨_, SqL.of hN.l⟩, ?_⟩
  refine for_list (K := K) (a := nl) (xs := Rs.map fun r => V.ref r.2) (fun i σ J => ∃ u7 u8, J = H' ∧ σ = [some (.int kind), some (.int target), some (.int many), some (.ref la), some (.ref nl), some (.bl (u0 || ((Rs.take i).map Prod.fst).any (fU lens many))), some (.bl (((Rs.take i).map Prod.fst).any (fX (decide (kind = 1) || decide (kind = 2)) target))), u7, u8]) ⟨none, none, rfl, ?_⟩ (fun i σ J _ ⟨_, _, e, _⟩ => by rw [e]; exact SqL.of hN.l) ?_ ?_
  · show _ = [_, _, _, _, _, some (V.bl (u0 || false)), some (V.bl false), none, none]
    rw [Bool.or_false]; rfl
  · rintro i x σ J hx ⟨u7, u8, rfl, rfl⟩
    obtain ⟨r, hr, rfl⟩ := list_at hx
    have mr := List.mem_of_getElem? hr
    obtain ⟨⟨b, row⟩, tt⟩ := r
    obtain ⟨r0, r1⟩ := hR _ mr
    have r0 : 0 ≤ row := r0
    have r1 : row.toNat < lens.length := r1
    have et : ((Rs.take (i + 1)).map Prod.fst) = ((Rs.take i).map Prod.fst) ++ [(b, row)] := by rw [List.take_add_one, hr, List.map_append]; rfl
    have one : ∀ f : Bool × Int → Bool, ([(b, row)]).any f = f (b, row) := fun f => by show (f (b, row) || false) = _; rw [Bool.or_false]
    rw [et, List.any_append, List.any_append, one, one, ← Bool.or_assoc]
    generalize (u0 || ((Rs.take i).map Prod.fst).any (fU lens many)) = ud
    generalize ((Rs.take i).map Prod.fst).any (fX (decide (kind = 1) || decide (kind = 2)) target) = cd
    refine ⟨tt, _, rfl, SqT.of (hN.r _ mr), rfl, _, _, rfl, _, _, rfl, rfl, ?_⟩
    refine ⟨fun σ' H2 => H2 = J ∧ σ' = [some (.int kind), some (.int target), some (.int many), some (.ref la), some (.ref nl), some (.bl (ud || fU lens many (b, row))), some (.bl cd), some (.str (wayS b)), some (.int row)], ?_, ?_⟩
    · cases b with
      | false =>
        refine ⟨_, rfl, rfl, _, rfl, ite2 (fun z => absurd z (show ¬ decide (V.str (wayS false) = V.str "near") = true by decide)) (fun z => ?_)⟩
        refine iteF ⟨rfl, ?_⟩
        show _ = [_, _, _, _, _, some (V.bl (ud || (false && _))), _, _, _]
        rw [Bool.false_and, Bool.or_false]; rfl
      | true =>
        refine ⟨_, rfl, rfl, _, rfl, ite2 (fun z => ?_) (fun z => absurd (show decide (V.str (wayS true) = V.str "near") = true by decide) z)⟩
        have ef : fU lens many (true, row) = (!decide (lens.getD row.toNat 0 = many) && !decide (lens.getD row.toNat 0 = 1)) := by unfold fU; rw [Bool.true_and]
        rw [ef]
        refine ⟨_, rfl, _, rfl, la, _, _, _, rfl, rfl, hL, at_int row.toNat r1 (show row = (row.toNat : Int) by omega), _, rfl, rfl, _, rfl, ?_⟩
        rw [intEq]
        refine ite2 (fun z1 => ?_) (fun z1 => ?_)
        · refine ⟨_, rfl, _, rfl, la, _, _, _, rfl, rfl, hL, at_int row.toNat r1 (show row = (row.toNat : Int) by omega), rfl, _, rfl, ?_⟩
          rw [intEq, z1, Bool.true_and]
          refine ite2 (fun z2 => ?_) (fun z2 => ?_)
          · exact ⟨rfl, by rw [z2, Bool.or_true]; rfl⟩
          · have z2 := Bool.eq_false_iff.mpr z2
            exact ⟨rfl, by rw [z2, Bool.or_false]; rfl⟩
        · have z1 := Bool.eq_false_iff.mpr z1
          refine iteF ⟨rfl, ?_⟩
          rw [z1, Bool.false_and, Bool.or_false]; rfl
    rintro σ' H2 ⟨rfl, rfl⟩
    generalize (ud || fU lens many (b, row)) = ud'
    have ef : fX (decide (kind = 1) || decide (kind = 2)) target (b, row) = (decide (row = target) && (!b || (decide (kind = 1) || decide (kind = 2)))) := rfl
    rw [ef]
    refine ⟨_, rfl, _, rfl, rfl, _, rfl, ?_⟩
    rw [intEq]
    have no : (decide (row = target) && (!b || (decide (kind = 1) || decide (kind = 2)))) = false → ∃ u7 u8, H2 = H2 ∧ [some (V.int kind), some (.int target), some (.int many), some (.ref la), some (.ref nl), some (.bl ud'), some (.bl cd), some (.str (wayS b)), some (.int row)] = [some (.int kind), some (.int target), some (.int many), some (.ref la), some (.ref nl), some (.bl ud'), some (.bl (cd || (decide (row = target) && (!b || (decide (kind = 1) || decide (kind = 2)))))), u7, u8] := fun e => ⟨_, _, rfl, by rw [e, Bool.or_false]⟩
    have yes : (decide (row = target) && (!b || (decide (kind = 1) || decide (kind = 2)))) = true → ∃ u7 u8, H2 = H2 ∧ [some (V.int kind), some (.int target), some (.int many), some (.ref la), some (.ref nl), some (.bl ud'), some (.bl true), some (.str (wayS b)), some (.int row)] = [some (.int kind), some (.int target), some (.int many), some (.ref la), some (.ref nl), some (.bl ud'), some (.bl (cd || (decide (row = target) && (!b || (decide (kind = 1) || decide (kind = 2)))))), u7, u8] := fun e => ⟨_, _, rfl, by rw [e, Bool.or_true]⟩
    refine ite2 (fun z1 => ?_) (fun z1 => iteF (no (by rw [Bool.eq_false_iff.mpr z1, Bool.false_and])))
    refine ⟨_, rfl, rfl, _, rfl, ?_⟩
    have ew : decide (V.str (wayS b) = V.str "far") = !b := by cases b <;> decide
    rw [ew]
    refine ite2 (fun z2 => iteT (yes (by rw [z1, z2]; rfl))) (fun z2 => ?_)
    have z2 := Bool.eq_false_iff.mpr z2
    refine ⟨_, rfl, rfl, _, rfl, ?_⟩
    rw [intEq]
    refine ite2 (fun z3 => iteT (yes (by rw [z1, z2, z3]; rfl))) (fun z3 => ?_)
    have z3 := Bool.eq_false_iff.mpr z3
    refine ⟨_, rfl, rfl, _, rfl, ?_⟩
    rw [intEq]
    exact ite2 (fun z4 => yes (by rw [z1, z2, z3, z4]; rfl)) (fun z4 => no (by rw [z1, z2, z3, Bool.eq_false_iff.mpr z4]; rfl))
  · rintro σ J ⟨u7, u8, rfl, rfl⟩
    rw [List.length_map, List.take_length]
    refine ⟨_, rfl, _, rfl, (by show 2 ≤ sizeLine; decide), fun t nt => ?_⟩
    have := k _ t (same_upd (Same.refl _) nt) upd_same
    unfold udOf cdOf at this
    rw [eu] at this
    exact this
def spAsked (c : F2.Cs) (q : Scs) (K : PySem.W.Frag) : Sp := fun vs H Q _ => ∃ (x la dt : Addr) (first : Bool) (o : Option StepD) (lens : List Int), vs = [.ref x, .ref la, .ref dt, .bl first] ∧ AskAt c q lens.length H x o ∧ SqL K H la (lens.map V.int) ∧ SqT K H dt [.bl (unevO lens o), .bl (croO o)] ∧ ∀ H', Same H H' → Q (.bl true) H'
theorem ok_asked {c : F2.Cs} {q : Scs} (d : DefIn K mg "_law_asked" s_l_asked ["_law_step", "_law_lengths", "_law_due_here", "_law_first"]) (hisi : mg "isinstance" = none) (hlist : mg "list" = none) (hbool : mg "bool" = none) (kbb : PySem.W.kitOne K (.type "bool") (.type "bool") = some true) (UN : Ok P w K mg base CX0 4 "uneven" ["step", "lengths"] (spUneven c q K)) (CR : ∀ n, Ok P w K mg base CX0 4 "crossed" ["step"] (spCrossed c q n)) : Ok P w K mg base CX0 5 "_law_asked" ["_law_step", "_law_lengths", "_law_due_here", "_law_first"] (spAsked c q K) := by
  obtain ⟨g, fd, m, F, b⟩ := d
  refine ⟨g, fd, m, F.kp, b, F.ok sc_l_asked (fun vs H Q E ⟨_, _, _, _, _, _, e, _⟩ => by rw [e]; rfl) fun cdv A outer s H vs Q E hr h => ?_⟩
  obtain ⟨x, la, dt, first, o, lens, rfl, hx, hL, hD, k⟩ := h
  have CR := CR lens.length
  have nd := sc_l_asked.nd
  have hu := hr.units
  have hr4 := hr
  refine ⟨_, (pss_cons (ps_set (i := 4) nd rfl (Or.inl rfl) (pe_callTy call_list_of (by rfl) hlist PyProof.Rows.boot_list (pa_cons (pv 1) pa_nil)))
      (pss_cons (ps_mid (ps_if (pt_val (pv 3)) (pss_one (ps_set (i := 5) nd rfl (Or.inl rfl) (pe_lst (pa_cons (pe_ok UN hr4 (by rfl) pass0 (pa_cons (pv 0) (pa_cons (pv 4) pa_nil))) (pa_cons (pe_ok CR hr4 (by rfl) pass0 (pa_cons (pv 0) pa_nil)) pa_nil))))) (pss_cons (ps_set (i := 5) nd rfl (Or.inl rfl) (pe_lst (pa_cons (pe_ok CR hr4 (by rfl) pass0 (pa_cons (pv 0) pa_nil)) pa_nil)))
      (pss_one (ps_set (i := 5) nd rfl (Or.inl rfl) (pe_op op_cat (pe_lst (pa_cons (pe_ok UN hr4 (by rfl) pass0 (pa_cons (pv 0) (pa_cons (pv 4) pa_nil))) pa_nil)) (pv 5)))))))
      (pss_cons (ps_if (pw_or (pt_cmpR (op_neD hu) (pv 4) (pv 1) (nomark _)) (pw_or (pt_not (pt_val (pe_callB call_isinst (by rfl) hisi PyProof.Rows.boot_isinstance (pa_cons (pe_ix ix_list (pv 5) pe_int (fun _ _ => rfl)) (pa_cons (pe_bty hbool PyProof.Rows.boot_bool) pa_nil))))) (pw_or1 (pt_not (pt_val (pe_callB call_isinst (by rfl) hisi PyProof.Rows.boot_isinstance (pa_cons (pe_ix ix_list (pv 5) pe_int (fun _ _ => rfl)) (pa_cons (pe_bty hbool PyProof.Rows.boot_bool) pa_nil)))))))).pt (pss_one (ps_ret pe_bl)) pss_nil)
      (pss_one (ps_ret (pe_and (pe_cmpR op_eq (pe_ix ix_list (pv 5) pe_int (fun _ _ => rfl)) (pe_ix ix_tup (pv 2) pe_int (fun _ _ => rfl)) (nomark _)) (pe_one (pe_cmpR op_eq (pe_ix ix_list (pv 5) pe_int (fun _ _ => rfl)) (pe_ix ix_tup (pv 2) pe_int (fun _ _ => rfl)) (nomark _))))))))), ?_⟩
  refine ⟨_, rfl, la, _, rfl, .inl hL, fun hd nhd => ?_⟩
  have s1 := same_upd (o := .lst (lens.map V.int)) (Same.refl H) nhd
  have e1 : upd H hd (.lst (lens.map V.int)) hd = some (.lst (lens.map V.int)) := upd_same
  generalize upd H hd (.lst (lens.map V.int)) = H1 at s1 e1 ⊢
  have hLx : lens.length = lens.length := rfl
  refine ⟨fun σ' H' => Same H1 H' ∧ ∃ tl, H' tl = some (.lst [.bl (unevO lens o), .bl (croO o)]) ∧ σ' = [some (.ref x), some (.ref la), some (.ref dt), some (.bl first), some (.ref hd), some (.ref tl)], ?_, ?_⟩
  · refine ⟨_, rfl, _, rfl, ?_⟩
    cases first with
    | true =>
      refine iteT ⟨_, rfl, _, rfl, x, hd, o, lens, rfl, hx.same s1, SqL.of e1, fun H2 s2 => ⟨_, rfl, x, o, rfl, hx.same (s1.trans s2), fun H3 s3 => ⟨(by show 2 ≤ sizeLine; decide), fun tl ntl => ?_⟩⟩⟩
      exact ⟨(s2.trans s3).trans (same_upd (Same.refl _) ntl), tl, upd_same, rfl⟩
    | false =>
      refine iteF ⟨_, rfl, x, o, rfl, hx.same s1, fun H2 s2 => ⟨(by show 1 ≤ sizeLine; decide), fun t1 nt1 => ?_⟩⟩
      have s3 := same_upd (o := .lst [.bl (croO o)]) (Same.refl H2) nt1
      have e3 : upd H2 t1 (.lst [.bl (croO o)]) t1 = some (.lst [.bl (croO o)]) := upd_same
      generalize upd H2 t1 (.lst [.bl (croO o)]) = H3 at s3 e3
      have s13 := s2.trans s3
      refine ⟨_, rfl, _, rfl, x, hd, o, lens, rfl, hx.same (s1.trans s13), SqL.of (s13 _ _ e1), fun H4 s4 => ⟨(by show 1 ≤ sizeLine; decide), fun t2 nt2 => ?_⟩⟩
      have s5 := same_upd (o := .lst [.bl (unevO lens o)]) (Same.refl H4) nt2
      refine ⟨_, rfl, t2, t1, _, _, rfl, rfl, upd_same, s5 _ _ (s4 _ _ e3), (by show 2 ≤ sizeLine; decide), fun tl ntl => ?_⟩
      exact ⟨((s13.trans s4).trans s5).trans (same_upd (Same.refl _) ntl), tl, upd_same, rfl⟩
  rintro σ' H' ⟨s2, tl, et, rfl⟩
  have s12 := s1.trans s2
  have eT : SqL K H' tl [.bl (unevO lens o), .bl (croO o)] := SqL.of et
  have eD : SqT K H' dt [.bl (unevO lens o), .bl (croO o)] := F2.sqt_same hD s12
  refine ⟨_, rfl, _, rfl, dI lens, dI lens, dv_ints (SqL.of (s2 _ _ e1)), dv_ints (sql_same hL s12), lay_ints, lay_ints, (by have := dep_ints (ns := lens); omega), _, rfl, ?_⟩
  rw [show ((dI lens).eqv (dI lens)) = true from SeqAt.eqv_refl _ lay_ints]
  refine iteF ⟨_, rfl, tl, _, _, _, rfl, rfl, eT, rfl, _, _, .type "bool", .type "bool", true, rfl, rfl, (fun u r => r), .inl (.bl _), kbb, true, rfl, ?_⟩
  refine iteF ⟨_, rfl, tl, _, _, _, rfl, rfl, eT, rfl, _, _, .type "bool", .type "bool", true, rfl, rfl, (fun u r => r), .inl (.bl _), kbb, true, rfl, ?_⟩
  refine iteF ⟨_, rfl, tl, _, _, _, rfl, rfl, eT, rfl, _, rfl, dt, _, 0, _, rfl, rfl, eD, rfl, rfl, _, rfl, ?_⟩
  refine ite2 (fun z => ?_) (fun z => absurd (decide_eq_true rfl) z)
  refine ⟨_, rfl, tl, _, _, _, rfl, rfl, eT, rfl, _, rfl, dt, _, 1, _, rfl, rfl, eD, rfl, rfl, ?_⟩
  rw [decide_eq_true rfl]
  exact k _ s12
end
end K20
namespace K20
open PySem L2 FM ST
section
variable {P : Program} {w : World} {K : PySem.W.Frag} {mg : Str → Option Value} {base : Heap}
theorem modN (z : Int) (n : Nat) (hn : 0 < n) : 0 ≤ z % (n : Int) ∧ (z % (n : Int)).toNat < n := by
  have := Int.emod_nonneg z (show (n : Int) ≠ 0 by omega)
  have := Int.emod_lt_of_pos z (show (0 : Int) < (n : Int) by omega)
  omega
theorem stepL_of {n : Nat} {kind target many : Int} {tested : Bool} {a b d : EN} (t0 : 0 ≤ target) (t1 : target.toNat < n) (ha : EOk n a) (hb : EOk n b) (hd : EOk n d) (wa : F2.nodes a.F ≤ 2000) (wb : F2.nodes b.F ≤ 2000) (wd : F2.nodes d.F ≤ 2000) : StepL n (stepOf kind target many a.F b.F d.F tested) := by
  refine ⟨t0, t1, fun F m => ?_⟩
  unfold formsOfS stepOf at m
  rcases List.mem_append.mp m with m | m
  · rcases List.mem_append.mp m with m | m
    · cases List.mem_singleton.mp m; exact ⟨wa, ha.ri⟩
    · unfold kdOf at m
      have m : F ∈ placeL (if kind = 0 then .let' else if kind = 1 then .put b.F many else if kind = 2 then .fold "chain" many else .run "sum") := m
      split at m
      · cases m
      · split at m
        · cases List.mem_singleton.mp m; exact ⟨wb, hb.ri⟩
        · split at m <;> cases m
  · cases tested with
    | true =>
      have m : F ∈ [d.F] := m
      cases List.mem_singleton.mp m; exact ⟨wd, hd.ri⟩
    | false => cases m
def spOne (K : PySem.W.Frag) : Sp := fun vs H Q _ => ∃ (ra la : Addr) (row lens : List Int), vs = [.ref ra, .ref la] ∧ H ra = some (.lst (row.map V.int)) ∧ 2 ≤ row.length ∧ row.length ≤ 20 ∧ SqL K H la (lens.map V.int) ∧ 1 ≤ lens.length ∧ lens.length ≤ 12 ∧ ∀ H', Same H H' → Q (.bl true) H'
theorem ok_one {c : F2.Cs} {q : Scs} (d : DefIn K mg "_law_one" s_l_one ["_law_row", "_law_lengths"]) (hlen : mg "len" = none) (hrg : mg "range" = none) (hmin : mg "min" = none) (MH : MkN K c.here) (hCe : mg "Here" = some (.ref c.here)) (hCn : mg "Number" = some (.ref c.num)) (hCT : mg "Till" = some (.ref q.till))
    (IN : OkI P w K mg base (CXe P w base) 1 c.num ["self", "number"] (spI_Number c.num)) (IT : OkI P w K mg base (CXe P w base) 1 q.till ["self", "target", "most", "steps"] (spI_Till K q.till))
    (PU : Ok P w K mg base CX0 4 "_law_pushed" ["_law_cell", "_law_pile", "_law_lengths", "_law_target", "_law_fit"] (spPush c K)) (SB : Ok P w K mg base CX0 3 "_law_step_by" ["_law_kind", "_law_target", "_law_many", "_law_found", "_law_tested"] (spStepBy c q)) (DU : Ok P w K mg base CX0 1 "_law_due" ["_law_kind", "_law_target", "_law_many", "_law_lengths", "_law_named"] (spDue K)) (AS : Ok P w K mg base CX0 5 "_law_asked" ["_law_step", "_law_lengths", "_law_due_here", "_law_first"] (spAsked c q K)) :
    Ok P w K mg base CX0 6 "_law_one" ["_law_row", "_law_lengths"] (spOne K) := by
  obtain ⟨g, fd, m, F, b⟩ := d
  refine ⟨g, fd, m, F.kp, b, F.ok sc_l_one (fun vs H Q E ⟨_, _, _, _, e, _⟩ => by rw [e]; rfl) fun cdv A outer s H vs Q E hr h => ?_⟩
  obtain ⟨ra, la, row, lens, rfl, hRo, r2, r20, hL, l1, l12, k⟩ := h
  have nd := sc_l_one.nd
  have hr5 := hr
  have hr4 := hr.mono (show 4 ≤ 5 by decide)
  have hr3 := hr.mono (show 3 ≤ 5 by decide)
  have hr2 := hr.mono (show 2 ≤ 5 by decide)
  have hr1 := hr.mono (show 1 ≤ 5 by decide)
  have SL : (3000 : Nat) < sizeLine := by decide
  have a0 := at_int (ns := row) 0 (by omega) (show (0 : Int) = ((0 : Nat) : Int) from rfl)
  have a1 := at_int (ns := row) 1 (by omega) (show (1 : Int) = ((1 : Nat) : Int) from rfl)
  generalize row.getD 0 0 = x0 at a0
  generalize row.getD 1 0 = x1 at a1
  have sR : ∀ {J : Hp}, Same H J → SqL K J ra (row.map V.int) := fun s => SqL.of (s _ _ hRo)
  have sL : ∀ {J : Hp}, Same H J → SqL K J la (lens.map V.int) := fun s => sql_same hL s
  refine ⟨_, (pss_cons (ps_set (i := 2) nd rfl (Or.inl rfl) (pe_op op_mod (pe_ix ix_list (pv 0) pe_int (fun _ _ => rfl)) pe_int))
      (pss_cons (ps_set (i := 3) nd rfl (Or.inl rfl) (pe_op op_mod (pe_op op_fdiv (pe_ix ix_list (pv 0) pe_int (fun _ _ => rfl)) pe_int) (pe_callB call_len_seq (by rfl) hlen PySem.boot_len (pa_cons (pv 1) pa_nil))))
      (pss_cons (ps_compF (i := 4) ["_law_k", "_law_lengths"] [none, some 1] rfl rfl rfl (pi_range1 rfl hrg (pa_cons (pe_callB call_len_seq (by rfl) hlen PySem.boot_len (pa_cons (pv 1) pa_nil)) pa_nil)) (fun s3 H3 fp => ⟨pg_name (i := 0) (show ((["_law_k", "_law_lengths"] : List Str)).Nodup by decide +kernel) rfl (Or.inl rfl), (pt_cmpR op_eq (pe_ix (ix_listK (K := K) rfl) (pv 1) (pv 0) (fun _ _ => rfl)) pe_int (nomark _)), (pv 0)⟩) nd rfl (Or.inl rfl))
      (pss_cons (ps_mid (ps_if (pw_and (pt_cmpR op_eq (pv 2) pe_int (nomark _)) (pw_and (pt_cmpR op_gt (pe_op op_mod (pe_op op_fdiv (pe_ix ix_list (pv 0) pe_int (fun _ _ => rfl)) pe_int) pe_int) pe_int (nomark _)) (pw_and1 (pt_cmpR op_gt (pe_callB call_len_seq (by rfl) hlen PySem.boot_len (pa_cons (pv 4) pa_nil)) pe_int (nomark _))))).pt (pss_one (ps_set (i := 3) nd rfl (Or.inl rfl) (pe_ix ix_list (pv 4) (pe_op op_mod (pe_op op_fdiv (pe_ix ix_list (pv 0) pe_int (fun _ _ => rfl)) pe_int) (pe_callB call_len_seq (by rfl) hlen PySem.boot_len (pa_cons (pv 4) pa_nil))) (fun _ _ => rfl)))) pss_nil))
      (pss_cons (ps_set (i := 6) nd rfl (Or.inl rfl) (pe_ix ix_list (pv 1) (pv 3) (fun _ _ => rfl)))
      (pss_cons (ps_mid (ps_if (pw_or (pt_cmpR op_eq (pv 2) pe_int (nomark _)) (pw_or1 (pt_cmpR op_eq (pv 2) pe_int (nomark _)))).pt (pss_one (ps_set (i := 6) nd rfl (Or.inl rfl) (pe_ix ix_list (pv 1) (pe_op op_mod (pe_ix ix_list (pv 0) pe_int (fun _ _ => rfl)) (pe_callB call_len_seq (by rfl) hlen PySem.boot_len (pa_cons (pv 1) pa_nil))) (fun _ _ => rfl)))) pss_nil))
      (pss_cons (ps_mid (ps_if (pw_and (pt_cmpR op_eq (pe_op op_mod (pe_op op_fdiv (pe_ix ix_list (pv 0) pe_int (fun _ _ => rfl)) pe_int) pe_int) pe_int (nomark _)) (pw_and1 (pt_cmpR op_gt (pe_op op_mod (pv 2) pe_int) pe_int (nomark _)))).pt (pss_one (ps_set (i := 6) nd rfl (Or.inl rfl) (pe_op op_add (pe_op op_mod (pe_op op_fdiv (pe_ix ix_list (pv 0) pe_int (fun _ _ => rfl)) pe_int) pe_int) pe_int))) pss_nil))
      (pss_cons (ps_set (i := 7) nd rfl (Or.inl rfl) (pe_lst pa_nil))
      (pss_cons (ps_for PassesOwn.never rfl (pi_list (pe_slice sl_list (pv 0) (po_some pe_int) po_none)) (pg_name (i := 8) nd rfl (Or.inl rfl)) (pss_one (ps_set (i := 7) nd rfl (Or.inl rfl) (pe_ok PU hr4 (by rfl) pass0 (pa_cons (pv 8) (pa_cons (pv 7) (pa_cons (pv 1) (pa_cons (pv 3) (pa_cons (pe_lst (pa_cons pe_int (pa_cons (pv 6) pa_nil))) pa_nil)))))))))
      (pss_cons (ps_set (i := 9) nd rfl (Or.inl rfl) (pe_lst (pa_cons (pe_tup (pa_cons (pe_makeN MH (by rfl) hCe) (pa_cons (pe_lst pa_nil) pa_nil))) (pa_cons (pe_tup (pa_cons (pe_okI IN hCn hr2 (by rfl) passF (pa_cons pe_int pa_nil)) (pa_cons (pe_lst pa_nil) pa_nil))) (pa_cons (pe_tup (pa_cons (pe_makeN MH (by rfl) hCe) (pa_cons (pe_lst pa_nil) pa_nil))) pa_nil)))))
      (pss_cons (ps_for PassesOwn.never rfl (pi_range1 rfl hrg (pa_cons (pe_callB (call_min2 rfl) (by rfl) hmin PyProof.Rows.boot_min (pa_cons pe_int (pa_cons (pe_callB call_len_seq (by rfl) hlen PySem.boot_len (pa_cons (pv 7) pa_nil)) pa_nil))) pa_nil)) (pg_name (i := 5) nd rfl (Or.inl rfl)) (pss_one (ps_asg (pe_ix ix_list (pv 7) (pe_op op_sub (pe_op op_sub (pe_callB call_len_seq (by rfl) hlen PySem.boot_len (pa_cons (pv 7) pa_nil)) pe_int) (pv 5)) (fun _ _ => rfl)) (pg_sub (pv 9) (pv 5) set_list))))
      (pss_cons (ps_set (i := 10) nd rfl (Or.inl rfl) (pe_cmpR op_gt (pe_op op_mod (pe_op op_fdiv (pe_ix ix_list (pv 0) pe_int (fun _ _ => rfl)) pe_int) pe_int) pe_int (nomark _)))
      (pss_cons (ps_set (i := 11) nd rfl (Or.inl rfl) (pe_ix ix_tup (pe_ix ix_list (pv 9) pe_int (fun _ _ => rfl)) pe_int (fun _ _ => rfl)))
      (pss_cons (ps_mid (ps_if (pt_cmpR op_eq (pv 2) pe_int (nomark _)) (pss_one (ps_set (i := 11) nd rfl (Or.inl rfl) (pe_op op_cat (pv 11) (pe_ix ix_tup (pe_ix ix_list (pv 9) pe_int (fun _ _ => rfl)) pe_int (fun _ _ => rfl))))) pss_nil))
      (pss_cons (ps_mid (ps_if (pt_val (pv 10)) (pss_one (ps_set (i := 11) nd rfl (Or.inl rfl) (pe_op op_cat (pv 11) (pe_ix ix_tup (pe_ix ix_list (pv 9) pe_int (fun _ _ => rfl)) pe_int (fun _ _ => rfl))))) pss_nil))
      (pss_cons (ps_set (i := 12) nd rfl (Or.inl rfl) (pe_ok SB hr3 (by rfl) pass0 (pa_cons (pv 2) (pa_cons (pv 3) (pa_cons (pv 6) (pa_cons (pv 9) (pa_cons (pv 10) pa_nil)))))))
      (pss_cons (ps_set (i := 13) nd rfl (Or.inl rfl) (pe_ok DU hr1 (by rfl) pass0 (pa_cons (pv 2) (pa_cons (pv 3) (pa_cons (pv 6) (pa_cons (pv 1) (pa_cons (pv 11) pa_nil)))))))
      (pss_cons (ps_if (pt_not (pt_val (pe_ok AS hr5 (by rfl) pass0 (pa_cons (pv 12) (pa_cons (pv 1) (pa_cons (pv 13) (pa_cons (pe_cmpR op_eq (pe_op op_mod (pe_op op_fdiv (pe_ix ix_list (pv 0) pe_int (fun _ _ => rfl)) pe_int) pe_int) pe_int (nomark _)) pa_nil))))))) (pss_one (ps_ret pe_bl)) pss_nil)
      (pss_cons (ps_set (i := 14) nd rfl (Or.inl rfl) (pe_okI IT hCT hr2 (by rfl) passF (pa_cons (pe_op op_mod (pe_ix ix_list (pv 0) pe_int (fun _ _ => rfl)) (pe_callB call_len_seq (by rfl) hlen PySem.boot_len (pa_cons (pv 1) pa_nil))) (pa_cons pe_int (pa_cons (pe_lst (pa_cons (pv 12) pa_nil)) pa_nil)))))
      (pss_one (ps_ret (pe_or (pe_cmpR op_gt (pe_op op_mod (pe_op op_fdiv (pe_ix ix_list (pv 0) pe_int (fun _ _ => rfl)) pe_int) pe_int) pe_int (nomark _)) (pe_one (pe_ok AS hr5 (by rfl) pass0 (pa_cons (pv 14) (pa_cons (pv 1) (pa_cons (pe_tup (pa_cons pe_bl (pa_cons pe_bl pa_nil))) (pa_cons (pe_ix ix_tup (pv 13) pe_int (fun _ _ => rfl)) pa_nil)))))))))))))))))))))))))))), ?_⟩
  refine ⟨_, rfl, ra, _, _, _, rfl, rfl, sR (Same.refl _), a0, _, _, rfl, rfl, (by show (0 : Int) < 4; decide), ?_⟩
  have k0 : 0 ≤ x0 % 4 := by omega
  have k4 : x0 % 4 < 4 := by omega
  show gName 2 (.int (x0 % 4)) _ _ _
  generalize x0 % 4 = kind at k0 k4
  refine ⟨_, rfl, ra, _, _, _, rfl, rfl, sR (Same.refl _), a0, _, _, rfl, rfl, ⟨by decide, by decide⟩, _, rfl, la, _, rfl, .inl hL, _, _, rfl, rfl, (by rw [List.length_map]; omega), ?_⟩
  rw [List.length_map]
  obtain ⟨t0, t1⟩ := modN (x0 / 4) lens.length (by omega)
  show gName 3 (.int (x0 / 4 % (lens.length : Int))) _ _ _
  generalize x0 / 4 % (lens.length : Int) = target0 at t0 t1
  refine ⟨_, rfl, la, _, rfl, .inl hL, _, rfl, by omega, (by rw [List.length_map]; omega), _, rfl, fun D nD => ?_⟩
  rw [List.length_map, Int.toNat_natCast]
  have h0 : Hd H [(D, .lst (([] : List Int).map V.int))] (upd H D (.lst [])) := Hd.base.new nD
  generalize upd H D (.lst []) = H1 at h0 ⊢
  refine compF_range (n := lens.length) (fun i σ J => ∃ (u : Option V) (rs : List Int), σ = [u, some (.ref la)] ∧ Hd H [(D, .lst (rs.map V.int))] J ∧ rs.length ≤ i ∧ ∀ r ∈ rs, 0 ≤ r ∧ r.toNat < lens.length) ⟨none, [], rfl, h0, Nat.le_refl _, fun r hr => nomatch hr⟩ ?_ ?_
  · clear h0
    rintro i σ J hi ⟨u, rs, rfl, h, hl, hg⟩
    refine ⟨_, rfl, _, rfl, la, _, _, _, rfl, rfl, sL h.sm, at_int i hi (by omega), rfl, _, rfl, ?_⟩
    refine ite2 (fun z => ?_) (fun z => ⟨_, rs, rfl, h, by omega, hg⟩)
    refine ⟨_, rfl, _, h.get 0 rfl, (by rw [List.length_map]; omega), _, rs ++ [0 + (i : Int)], rfl, ?_, (by rw [List.length_append]; show _ + 1 ≤ _; omega), fun r hr => ?_⟩
    · rw [List.map_append]; exact h.put 0 rfl
    · rcases List.mem_append.mp hr with hr | hr
      · exact hg r hr
      · cases List.mem_singleton.mp hr; omega
  rintro σ J ⟨u, os, rfl, h, hl, hg⟩
  clear h0
  have sJ := h.sm
  have eD := h.get 0 rfl
  clear h
  refine ⟨fun σ' H' => H' = J ∧ ∃ target : Int, 0 ≤ target ∧ target.toNat < lens.length ∧ σ' = [some (.ref ra), some (.ref la), some (.int kind), some (.int target), some (.ref D), none, none, none, none, none, none, none, none, none, none], ?_, ?_⟩
  · refine ⟨_, rfl, rfl, _, rfl, ?_⟩
    refine ite2 (fun z => ?_) (fun z => iteF ⟨rfl, target0, t0, t1, rfl⟩)
    refine ⟨_, rfl, ra, _, _, _, rfl, rfl, sR sJ, a0, _, _, rfl, rfl, ⟨by decide, by decide⟩, _, _, rfl, rfl, (by show (0 : Int) < 4; decide), _, _, rfl, rfl, _, rfl, ?_⟩
    refine ite2 (fun z => ?_) (fun z => iteF ⟨rfl, target0, t0, t1, rfl⟩)
    refine ⟨_, rfl, D, _, rfl, .inl (SqL.of eD), _, _, rfl, rfl, _, rfl, ?_⟩
    refine ite2 (fun z => ?_) (fun z => ⟨rfl, target0, t0, t1, rfl⟩)
    have z : (0 : Int) < ((os.map V.int).length : Int) := by simpa using z
    rw [List.length_map] at z
    refine ⟨_, rfl, _, rfl, ra, _, _, _, rfl, rfl, sR sJ, a0, _, _, rfl, rfl, ⟨by decide, by decide⟩, _, rfl, D, _, rfl, .inl (SqL.of eD), _, _, rfl, rfl, (by rw [List.length_map]; omega), ?_⟩
    rw [List.length_map]
    obtain ⟨z0, z1⟩ := modN (x0 / 4) os.length (by omega)
    refine ⟨D, _, _, _, rfl, rfl, SqL.of eD, at_int _ z1 (by omega), rfl, _, ?_, ?_, rfl⟩
    · exact (hg _ (L2.getD_mem z1)).1
    · exact (hg _ (L2.getD_mem z1)).2
  rintro σ' H' ⟨rfl, target, t0', t1', rfl⟩
  clear t0 t1
  refine ⟨_, rfl, _, rfl, la, _, _, _, rfl, rfl, sL sJ, at_int target.toNat t1' (by omega), ?_⟩
  refine ⟨fun σ' H2 => H2 = H' ∧ ∃ many : Int, (kind = 0 ∨ kind = 3 → many = lens.getD target.toNat 0) ∧ σ' = [some (.ref ra), some (.ref la), some (.int kind), some (.int target), some (.ref D), none, some (.int many), none, none, none, none, none, none, none, none], ?_, ?_⟩
  · have go : ∀ {Qx : Prop}, (kind = 1 ∨ kind = 2) → True := fun _ => trivial
    obtain ⟨z0, z1⟩ := modN x1 lens.length (by omega)
    refine ⟨_, rfl, rfl, _, rfl, ?_⟩
    refine ite2 (fun z => ?_) (fun z => ?_)
    · have z := (dI' _ _).mp z
      refine iteT ⟨_, rfl, _, rfl, ra, _, _, _, rfl, rfl, sR sJ, a1, _, rfl, la, _, rfl, .inl (sL sJ), _, _, rfl, rfl, (by rw [List.length_map]; omega), ?_⟩
      rw [List.length_map]
      exact ⟨la, _, _, _, rfl, rfl, sL sJ, at_int _ z1 (by omega), rfl, _, (fun e => by omega), rfl⟩
    · refine ⟨_, rfl, rfl, _, rfl, ?_⟩
      refine ite2 (fun z => ?_) (fun z => ⟨rfl, _, (fun _ => rfl), rfl⟩)
      have z := (dI' _ _).mp z
      refine ⟨_, rfl, _, rfl, ra, _, _, _, rfl, rfl, sR sJ, a1, _, rfl, la, _, rfl, .inl (sL sJ), _, _, rfl, rfl, (by rw [List.length_map]; omega), ?_⟩
      rw [List.length_map]
      exact ⟨la, _, _, _, rfl, rfl, sL sJ, at_int _ z1 (by omega), rfl, _, (fun e => by omega), rfl⟩
  rintro σ' H2 ⟨rfl, many0, hm0, rfl⟩
  refine ⟨fun σ' H3 => H3 = H2 ∧ ∃ many : Int, (kind = 0 ∨ kind = 3 → many = lens.getD target.toNat 0) ∧ σ' = [some (.ref ra), some (.ref la), some (.int kind), some (.int target), some (.ref D), none, some (.int many), none, none, none, none, none, none, none, none], ?_, ?_⟩
  · refine ⟨_, rfl, ra, _, _, _, rfl, rfl, sR sJ, a1, _, _, rfl, rfl, ⟨by decide, by decide⟩, _, _, rfl, rfl, (by show (0 : Int) < 9; decide), rfl, _, rfl, ?_⟩
    refine ite2 (fun z => ?_) (fun z => iteF ⟨rfl, _, hm0, rfl⟩)
    refine ⟨_, rfl, _, _, rfl, rfl, (by show (0 : Int) < 3; decide), _, _, rfl, rfl, _, rfl, ?_⟩
    refine ite2 (fun z => ?_) (fun z => ⟨rfl, _, hm0, rfl⟩)
    have z : (0 : Int) < kind % 3 := by simpa using z
    exact ⟨_, rfl, ra, _, _, _, rfl, rfl, sR sJ, a1, _, _, rfl, rfl, ⟨by decide, by decide⟩, _, _, rfl, rfl, (by show (0 : Int) < 400; decide), _, _, rfl, rfl, rfl, _, (fun e => by omega), rfl⟩
  rintro σ' H3 ⟨rfl, many, hm, rfl⟩
  clear hm0
  refine ⟨(by show 0 ≤ sizeLine; decide), fun pl npl => ?_⟩
  have s4 := same_upd (o := .lst []) (Same.refl H3) npl
  have e4 : upd H3 pl (.lst []) pl = some (lE []) := upd_same
  generalize upd H3 pl (.lst []) = H4 at s4 e4 ⊢
  have sH4 := sJ.trans s4
  refine ⟨_, rfl, _, rfl, ra, _, rfl, sR sH4, fun sl nsl => ?_⟩
  rw [cutV_from (by decide)]
  have s5 := same_upd (o := .lst ((row.drop (2 : Int).toNat).map V.int)) (Same.refl H4) nsl
  have e5 : upd H4 sl (.lst ((row.drop (2 : Int).toNat).map V.int)) sl = some (.lst ((row.drop (2 : Int).toNat).map V.int)) := upd_same
  generalize upd H4 sl (.lst ((row.drop (2 : Int).toNat).map V.int)) = H5 at s5 e5 ⊢
  have sH5 := sH4.trans s5
  refine ⟨sl, rfl, ⟨_, SqL.of e5⟩, ?_⟩
  refine for_list (K := K) (a := sl) (xs := (row.drop (2 : Int).toNat).map V.int) (fun i σ J => ∃ (pl : Addr) (Es : List EN) (u8 : Option V), σ = [some (.ref ra), some (.ref la), some (.int kind), some (.int target), some (.ref D), none, some (.int many), some (.ref pl), u8, none, none, none, none, none, none] ∧ Same H5 J ∧ J pl = some (lE Es) ∧ (∀ e ∈ Es, EAt c J e) ∧ (∀ e ∈ Es, EOk lens.length e) ∧ wt Es ≤ 2 * i) ⟨pl, [], none, rfl, Same.refl _, s5 _ _ e4, (fun e he => nomatch he), (fun e he => nomatch he), Nat.zero_le _⟩ (fun i σ J _ ⟨_, _, _, _, s, _⟩ => SqL.of (s _ _ e5)) ?_ ?_
  · rintro i x σ J6 hx ⟨pl, Es, u8, rfl, s6, ep, hA, hO, hw⟩
    obtain ⟨hlt, rfl⟩ := map_int_at hx
    rw [List.length_drop] at hlt
    have sH6 := sH5.trans s6
    refine ⟨_, rfl, _, rfl, _, rfl, _, rfl, _, rfl, (by show 2 ≤ sizeLine; decide), fun fa nfa => ?_⟩
    have s7 := same_upd (o := .lst (([1, many] : List Int).map V.int)) (Same.refl J6) nfa
    have e7 : upd J6 fa (.lst (([1, many] : List Int).map V.int)) fa = some (.lst (([1, many] : List Int).map V.int)) := upd_same
    refine ⟨_, target, pl, la, fa, lens, [1, many], Es, rfl, sL (sH6.trans s7), SqL.of e7, l1, l12, s7 _ _ ep, (fun e he => (hA e he).same s7), hO, by omega, fun J8 l8 Es8 s8 e8 hA8 hO8 hw8 => ?_⟩
    exact ⟨l8, Es8, _, rfl, s6.trans (s7.trans s8), e8, hA8, hO8, by omega⟩
  rintro σ J6 ⟨pl, Es, u8, rfl, s6, ep, hA, hO, hw⟩
  rw [List.length_map, List.length_drop] at hw
  have hw : wt Es ≤ 40 := by omega
  have lw := len_wt Es
  have sH6 := sH5.trans s6
  refine fun y1 dy1 ny1 ndy1 _ => ?_
  have t1 : Same J6 (upd (upd J6 dy1 (.own y1)) y1 (.ins c.here dy1 [])) := same_upd (same_upd (Same.refl _) ndy1) ny1
  have f1 : F2.FormAt c (upd (upd J6 dy1 (.own y1)) y1 (.ins c.here dy1 [])) .here y1 := ⟨dy1, upd_same⟩
  generalize upd (upd J6 dy1 (.own y1)) y1 (.ins c.here dy1 []) = J7 at t1 f1 ⊢
  refine ⟨(by show 0 ≤ sizeLine; decide), fun n1 nn1 => ⟨(by show 2 ≤ sizeLine; decide), fun p1 np1 => ?_⟩⟩
  have t2 := same_upd (o := .lst []) (Same.refl J7) nn1
  have g2 : upd J7 n1 (.lst []) n1 = some (lR []) := upd_same
  generalize upd J7 n1 (.lst []) = J8 at t2 g2 np1 ⊢
  have t3 := same_upd (o := .tup [.ref y1, .ref n1]) (Same.refl J8) np1
  have q1 : EAt c (upd J8 p1 (.tup [.ref y1, .ref n1])) ⟨.here, y1, n1, [], p1⟩ := ⟨upd_same, (f1.same t2).same t3, t3 _ _ g2, fun r hr => nomatch hr⟩
  generalize upd J8 p1 (.tup [.ref y1, .ref n1]) = J9 at t3 q1 ⊢
  refine fun y2 dy2 ny2 ndy2 _ => ⟨y2, dy2, _, rfl, upd_same, fun J10 kk e10 => ⟨rfl, (by show 0 ≤ sizeLine; decide), fun n2 nn2 => ⟨(by show 2 ≤ sizeLine; decide), fun p2 np2 => ?_⟩⟩⟩
  have t4 := made_same ny2 ndy2 kk
  have f2 : F2.FormAt c J10 (.num 0) y2 := ⟨dy2, e10⟩
  have t5 := same_upd (o := .lst []) (Same.refl J10) nn2
  have g5 : upd J10 n2 (.lst []) n2 = some (lR []) := upd_same
  generalize upd J10 n2 (.lst []) = J11 at t5 g5 np2 ⊢
  have t6 := same_upd (o := .tup [.ref y2, .ref n2]) (Same.refl J11) np2
  have q2 : EAt c (upd J11 p2 (.tup [.ref y2, .ref n2])) ⟨.num 0, y2, n2, [], p2⟩ := ⟨upd_same, (f2.same t5).same t6, t6 _ _ g5, fun r hr => nomatch hr⟩
  generalize upd J11 p2 (.tup [.ref y2, .ref n2]) = J12 at t6 q2 ⊢
  refine fun y3 dy3 ny3 ndy3 _ => ?_
  have t7 : Same J12 (upd (upd J12 dy3 (.own y3)) y3 (.ins c.here dy3 [])) := same_upd (same_upd (Same.refl _) ndy3) ny3
  have f3 : F2.FormAt c (upd (upd J12 dy3 (.own y3)) y3 (.ins c.here dy3 [])) .here y3 := ⟨dy3, upd_same⟩
  generalize upd (upd J12 dy3 (.own y3)) y3 (.ins c.here dy3 []) = J13 at t7 f3 ⊢
  refine ⟨(by show 0 ≤ sizeLine; decide), fun n3 nn3 => ⟨(by show 2 ≤ sizeLine; decide), fun p3 np3 => ?_⟩⟩
  have t8 := same_upd (o := .lst []) (Same.refl J13) nn3
  have g8 : upd J13 n3 (.lst []) n3 = some (lR []) := upd_same
  generalize upd J13 n3 (.lst []) = J14 at t8 g8 np3 ⊢
  have t9 := same_upd (o := .tup [.ref y3, .ref n3]) (Same.refl J14) np3
  have q3 : EAt c (upd J14 p3 (.tup [.ref y3, .ref n3])) ⟨.here, y3, n3, [], p3⟩ := ⟨upd_same, (f3.same t8).same t9, t9 _ _ g8, fun r hr => nomatch hr⟩
  generalize upd J14 p3 (.tup [.ref y3, .ref n3]) = B at t9 q3 ⊢
  have u39 := (t7.trans t8).trans t9
  have u29 := ((t4.trans t5).trans t6).trans u39
  have q2 := q2.same u39
  have q1 := q1.same u29
  have sB : Same J6 B := ((t1.trans t2).trans t3).trans u29
  have hAB : ∀ e ∈ Es, EAt c B e := fun e he => (hA e he).same sB
  have epB := sB _ _ ep
  have sHB := sH6.trans sB
  have bareH : ∀ y n p, EOk lens.length ⟨.here, y, n, [], p⟩ := fun y n p => ⟨(fun f => by show (0 : Int) = _; unfold F2.tot; rfl), by unfold F2.RI; trivial, Nat.zero_le _, fun r m => nomatch m⟩
  have bareN : ∀ y n p, EOk lens.length ⟨.num 0, y, n, [], p⟩ := fun y n p => ⟨(fun f => by show (0 : Int) = _; unfold F2.tot; rfl), by unfold F2.RI; trivial, Nat.zero_le _, fun r m => nomatch m⟩
  have nH : F2.nodes .here = 1 := by unfold F2.nodes; rfl
  have nN : F2.nodes (.num 0) = 1 := by unfold F2.nodes; rfl
  have wE : ∀ e ∈ Es, F2.nodes e.F ≤ 40 := fun e he => by
    have : F2.nodes e.F ≤ wt Es := by
      obtain ⟨s, t, rfl⟩ := List.append_of_mem he
      rw [wt_app, wt_cons]; omega
    omega
  clear t1 t2 t3 t4 t5 t6 t7 t8 t9 u39 u29 f1 f2 f3 g2 g5 g8 hA
  refine ⟨(by show 3 ≤ sizeLine; decide), fun fo nfo => ?_⟩
  have h0 : Hd B [(fo, lE [⟨.here, y1, n1, [], p1⟩, ⟨.num 0, y2, n2, [], p2⟩, ⟨.here, y3, n3, [], p3⟩])] (upd B fo (.lst [.ref p1, .ref p2, .ref p3])) := Hd.base.new nfo
  generalize upd B fo (.lst [.ref p1, .ref p2, .ref p3]) = C0 at h0 ⊢
  refine ⟨_, rfl, pl, _, rfl, .inl (SqL.of (h0.sm _ _ epB)), 3, _, rfl, _, rfl, ?_⟩
  rw [List.length_map]
  refine ⟨by split <;> omega, by split <;> omega, ?_⟩
  obtain ⟨mn, em, mn3, mnl⟩ : ∃ mn : Nat, (if (Es.length : Int) < 3 then (Es.length : Int) else 3) = mn ∧ mn ≤ 3 ∧ mn ≤ Es.length := by
    by_cases z : (Es.length : Int) < 3
    · exact ⟨Es.length, by rw [if_pos z], by omega, Nat.le_refl _⟩
    · exact ⟨3, by rw [if_neg z]; rfl, Nat.le_refl _, by omega⟩
  rw [em, Int.toNat_natCast]
  refine for_range (n := mn) (fun i σ J => ∃ (Fs : List EN) (u5 : Option V), σ = [some (.ref ra), some (.ref la), some (.int kind), some (.int target), some (.ref D), u5, some (.int many), some (.ref pl), u8, some (.ref fo), none, none, none, none, none] ∧ Hd B [(fo, lE Fs)] J ∧ Fs.length = 3 ∧ (∀ e ∈ Fs, EAt c B e) ∧ (∀ e ∈ Fs, EOk lens.length e) ∧ ∀ e ∈ Fs, F2.nodes e.F ≤ 40) ⟨_, none, rfl, h0, rfl, ?_, ?_, ?_⟩ ?_ ?_
  · intro e he
    rcases List.mem_cons.mp he with rfl | he
    · exact q1
    · rcases List.mem_cons.mp he with rfl | he
      · exact q2
      · cases List.mem_singleton.mp he; exact q3
  · intro e he
    rcases List.mem_cons.mp he with rfl | he
    · exact bareH _ _ _
    · rcases List.mem_cons.mp he with rfl | he
      · exact bareN _ _ _
      · cases List.mem_singleton.mp he; exact bareH _ _ _
  · intro e he
    rcases List.mem_cons.mp he with rfl | he
    · show F2.nodes .here ≤ 40; omega
    · rcases List.mem_cons.mp he with rfl | he
      · show F2.nodes (.num 0) ≤ 40; omega
      · cases List.mem_singleton.mp he; show F2.nodes .here ≤ 40; omega
  · clear h0
    rintro i σ J hi ⟨Fs, u5, rfl, h, l3, fA, fO, fW⟩
    have lt : Es.length - 1 - i < Es.length := by omega
    have ai : atI (Es.map fun e => V.ref e.t) ((Es.length : Int) - 1 - (0 + (i : Int))) = some (.ref (Es[Es.length - 1 - i]).t) := by
      rw [show (Es.length : Int) - 1 - (0 + (i : Int)) = ((Es.length - 1 - i : Nat) : Int) by omega]
      exact atI_nat (by rw [List.getElem?_map, List.getElem?_eq_getElem lt]; rfl)
    have me : Es[Es.length - 1 - i] ∈ Es := List.getElem_mem lt
    generalize Es[Es.length - 1 - i] = e at ai me
    refine ⟨_, rfl, _, rfl, pl, _, rfl, .inl (SqL.of (h.sm _ _ epB)), _, _, rfl, rfl, _, rfl, _, _, rfl, rfl, pl, _, _, _, rfl, rfl, SqL.of (h.sm _ _ epB), (by rw [List.length_map]; exact ai), ?_⟩
    refine ⟨_, rfl, _, rfl, fo, _, _, i, rfl, rfl, h.get 0 rfl, ?_, ?_⟩
    · unfold ixN
      rw [List.length_map, l3, if_pos (by omega), if_pos (by omega)]
      congr 1
      omega
    have h2 := h.put (o' := lE (Fs.set i e)) 0 rfl
    have h2 : Hd B [(fo, lE (Fs.set i e))] _ := h2
    have el : lE (Fs.set i e) = .lst ((Fs.map fun e => V.ref e.t).set i (.ref e.t)) := by show HO.lst _ = _; rw [List.map_set]
    rw [el] at h2
    refine ⟨Fs.set i e, _, rfl, by rw [el]; exact h2, by rw [List.length_set, l3], fun r hr => ?_, fun r hr => ?_, fun r hr => ?_⟩
    · rcases List.mem_or_eq_of_mem_set hr with hr | rfl
      · exact fA r hr
      · exact hAB _ me
    · rcases List.mem_or_eq_of_mem_set hr with hr | rfl
      · exact fO r hr
      · exact hO _ me
    · rcases List.mem_or_eq_of_mem_set hr with hr | rfl
      · exact fW r hr
      · exact wE _ me
  clear h0
  rintro σ J ⟨Fs, u5, rfl, h, l3, fA, fO, fW⟩
  obtain ⟨a, b, d, rfl⟩ : ∃ a b d, Fs = [a, b, d] := by
    match Fs, l3 with
    | [a, b, d], _ => exact ⟨a, b, d, rfl⟩
  have aA := (fA a List.mem_cons_self).same h.sm
  have bA := (fA b (List.mem_cons_of_mem _ List.mem_cons_self)).same h.sm
  have dA := (fA d (List.mem_cons_of_mem _ (List.mem_cons_of_mem _ List.mem_cons_self))).same h.sm
  have aO := fO a List.mem_cons_self
  have bO := fO b (List.mem_cons_of_mem _ List.mem_cons_self)
  have dO := fO d (List.mem_cons_of_mem _ (List.mem_cons_of_mem _ List.mem_cons_self))
  have aW := fW a List.mem_cons_self
  have bW := fW b (List.mem_cons_of_mem _ List.mem_cons_self)
  have dW := fW d (List.mem_cons_of_mem _ (List.mem_cons_of_mem _ List.mem_cons_self))
  have al := aO.le
  have bl := bO.le
  have dl := dO.le
  have ef : J fo = some (.lst [.ref a.t, .ref b.t, .ref d.t]) := h.get 0 rfl
  have sHJ := sHB.trans h.sm
  clear h fA fO fW hAB epB
  refine ⟨_, rfl, ra, _, _, _, rfl, rfl, sR sHJ, a1, _, _, rfl, rfl, ⟨by decide, by decide⟩, _, _, rfl, rfl, (by show (0 : Int) < 3; decide), _, _, rfl, rfl, ?_⟩
  show gName 10 (.bl (decide (x1 / 5 % 3 > 0))) _ _ _
  generalize decide (x1 / 5 % 3 > 0) = tested
  refine ⟨_, rfl, fo, _, _, _, rfl, rfl, SqL.of ef, rfl, a.t, _, 1, .ref a.nl, rfl, rfl, SqT.of aA.t, rfl, ?_⟩
  refine ⟨fun σ' H' => ∃ nl, Same J H' ∧ NAt H' nl (a.Rs ++ if kind = 1 then b.Rs else []) ∧ σ' = [some (.ref ra), some (.ref la), some (.int kind), some (.int target), some (.ref D), u5, some (.int many), some (.ref pl), u8, some (.ref fo), some (.bl tested), some (.ref nl), none, none, none], ?_, ?_⟩
  · refine ⟨_, rfl, rfl, _, rfl, ?_⟩
    refine ite2 (fun z => ?_) (fun z => ?_)
    · have z := (dI' _ _).mp z
      rw [if_pos z]
      refine ⟨_, rfl, _, rfl, fo, _, _, _, rfl, rfl, SqL.of ef, rfl, b.t, _, 1, .ref b.nl, rfl, rfl, SqT.of bA.t, rfl, a.nl, b.nl, _, _, rfl, rfl, aA.n.l, bA.n.l, (by rw [List.length_map, List.length_map]; omega), fun nl nnl => ?_⟩
      exact ⟨nl, same_upd (Same.refl _) nnl, aA.n.cat bA.n nnl, rfl⟩
    · have z : ¬ kind = 1 := fun e => z ((dI' _ _).mpr e)
      rw [if_neg z, List.append_nil]
      exact ⟨a.nl, Same.refl _, aA.n, rfl⟩
  rintro σ' JA ⟨nl0, sA, nA, rfl⟩
  have lA : (a.Rs ++ if kind = 1 then b.Rs else []).length ≤ 80 := by
    rw [List.length_append]
    split
    · omega
    · show _ + 0 ≤ _; omega
  refine ⟨fun σ' H' => ∃ nl, Same JA H' ∧ NAt H' nl (namedOf kind tested a.Rs b.Rs d.Rs) ∧ σ' = [some (.ref ra), some (.ref la), some (.int kind), some (.int target), some (.ref D), u5, some (.int many), some (.ref pl), u8, some (.ref fo), some (.bl tested), some (.ref nl), none, none, none], ?_, ?_⟩
  · refine ⟨_, rfl, _, rfl, ?_⟩
    unfold namedOf
    cases tested with
    | true =>
      have dN := dA.n.same sA
      refine iteT ⟨_, rfl, _, rfl, fo, _, _, _, rfl, rfl, SqL.of (sA _ _ ef), rfl, d.t, _, 1, .ref d.nl, rfl, rfl, SqT.of (sA _ _ dA.t), rfl, nl0, d.nl, _, _, rfl, rfl, nA.l, dN.l, (by rw [List.length_map, List.length_map]; omega), fun nl nnl => ?_⟩
      exact ⟨nl, same_upd (Same.refl _) nnl, nA.cat dN nnl, rfl⟩
    | false =>
      refine iteF ⟨nl0, Same.refl _, ?_, rfl⟩
      show NAt JA nl0 ((a.Rs ++ if kind = 1 then b.Rs else []) ++ [])
      rw [List.append_nil]
      exact nA
  rintro σ' JB ⟨nl, sBB, nB, rfl⟩
  have sAB := sA.trans sBB
  have sHB' := sHJ.trans sAB
  refine ⟨_, rfl, _, rfl, _, rfl, _, rfl, _, rfl, kind, target, many, fo, tested, a, b, d, rfl, sAB _ _ ef, aA.same sAB, bA.same sAB, dA.same sAB, fun JC x sC hx => ?_⟩
  refine ⟨_, rfl, _, rfl, _, rfl, _, rfl, _, rfl, kind, target, many, la, nl, lens, _, rfl, sL (sHB'.trans sC), t0', t1', nB.same sC, (fun r hr => ?_), fun JD t sD eT => ?_⟩
  · unfold namedOf at hr
    rcases List.mem_append.mp hr with hr | hr
    · rcases List.mem_append.mp hr with hr | hr
      · exact aO.rows r hr
      · split at hr
        · exact bO.rows r hr
        · cases hr
    · split at hr
      · exact dO.rows r hr
      · cases hr
  rw [ud_is k0 k4 hm aO bO dO, cd_is (many := many) k0 k4 aO bO dO] at eT
  have hL' : StepL lens.length (stepOf kind target many a.F b.F d.F tested) := stepL_of t0' t1' aO bO dO (by omega) (by omega) (by omega)
  have sHD := (sHB'.trans sC).trans sD
  refine ⟨_, rfl, _, rfl, _, rfl, _, rfl, ra, _, _, _, rfl, rfl, sR sHD, a0, _, _, rfl, rfl, ⟨by decide, by decide⟩, _, _, rfl, rfl, (by show (0 : Int) < 2; decide), rfl, x, la, t, _, some (stepOf kind target many a.F b.F d.F tested), lens, rfl, ⟨hx.same sD, hL'⟩, sL sHD, SqT.of eT, fun JE sE => ⟨_, rfl, iteF ?_⟩⟩
  have sHE := sHD.trans sE
  refine ⟨_, rfl, ra, _, _, _, rfl, rfl, sR sHE, a1, _, rfl, la, _, rfl, .inl (sL sHE), _, _, rfl, rfl, (by rw [List.length_map]; omega), _, rfl, (by show 1 ≤ sizeLine; decide), fun ls nls => ?_⟩
  have s7 := same_upd (o := .lst [.ref x]) (Same.refl JE) nls
  have e7 : upd JE ls (.lst [.ref x]) ls = some (.lst [.ref x]) := upd_same
  generalize upd JE ls (.lst [.ref x]) = JF at s7 e7
  refine fun y dy ny ndy ne => ⟨y, dy, ls, _, _, [.ref x], rfl, upd_same, ?_⟩
  have s7' : Same JF (upd (upd JF dy (.own y)) y (.ins q.till dy [])) := same_upd (same_upd (Same.refl _) ndy) ny
  refine ⟨SqL.of (s7' _ _ e7), fun JG l4 nl4 k4' e4 e4' => ⟨rfl, ?_⟩⟩
  have s8 := made_same ny ndy k4'
  have sHG := (sHE.trans s7).trans s8
  refine ⟨_, rfl, ra, _, _, _, rfl, rfl, sR sHG, a0, _, _, rfl, rfl, ⟨by decide, by decide⟩, _, _, rfl, rfl, (by show (0 : Int) < 3; decide), _, _, rfl, rfl, _, rfl, ?_⟩
  refine ite2 (fun z => ?_) (fun z => ?_)
  · have := k _ sHG
    exact this
  refine ⟨_, rfl, _, rfl, (by show 2 ≤ sizeLine; decide), fun tp ntp => ?_⟩
  have s9 := same_upd (o := .tup [.bl false, .bl false]) (Same.refl JG) ntp
  have e9 : upd JG tp (.tup [.bl false, .bl false]) tp = some (.tup [.bl false, .bl false]) := upd_same
  generalize upd JG tp (.tup [.bl false, .bl false]) = JI at s9 e9
  have sDI := ((sE.trans s7).trans s8).trans s9
  refine ⟨_, rfl, t, _, 0, _, rfl, rfl, SqT.of (sDI _ _ eT), rfl, y, la, tp, _, none, lens, rfl, ⟨dy, _, s9 _ _ e4'⟩, sL (sHG.trans s9), SqT.of e9, fun JK sK => k _ ((sHG.trans s9).trans sK)⟩
theorem flat_rep (x : Int) : ∀ k : Nat, (List.replicate k [V.int x]).flatten = (List.replicate k x).map V.int
  | 0 => rfl
  | k + 1 => by rw [List.replicate_succ, List.flatten_cons, flat_rep x k, List.replicate_succ, List.map_cons]; rfl
def spLaw (K : PySem.W.Frag) : Sp := fun vs H Q _ => ∃ (a : Addr) (ns : List Int), vs = [.ref a] ∧ SqL K H a (ns.map V.int) ∧ ns.length ≤ 63 ∧ ∀ H', Q (.bl true) H'
theorem ok_law {g : Addr} {fd : FuncData} (F : Fun K "law" "law" s_law g fd) (hlen : mg "len" = none) (hrg : mg "range" = none) (hmin : mg "min" = none) (hmax : mg "max" = none) (LB : Ok P w K mg base CX0 2 "_law_lengths_by" ["_law_script"] (spLB K)) (ON : Ok P w K mg base CX0 6 "_law_one" ["_law_row", "_law_lengths"] (spOne K)) : FnOk P w K mg base CX0 7 g fd ["_law_script"] (spLaw K) := by
  refine F.ok sc_law (fun vs H Q E ⟨_, _, e, _⟩ => by rw [e]; rfl) fun cdv A outer s H vs Q E hr h => ?_
  obtain ⟨a, ns, rfl, ha, hn, k⟩ := h
  have nd := sc_law.nd
  have hr6 := hr
  have hr2 := hr.mono (show 2 ≤ 6 by decide)
  have SL : (3000 : Nat) < sizeLine := by decide
  refine ⟨_, (pss_cons (ps_set (i := 1) nd rfl (Or.inl rfl) (pe_ok LB hr2 (by rfl) pass0 (pa_cons (pv 0) pa_nil)))
      (pss_cons (ps_for PassesOwn.never rfl (pi_range3 rfl hrg (pa_cons pe_int (pa_cons (pe_callB (call_max2 rfl) (by rfl) hmax PyProof.Rows.boot_max (pa_cons pe_int (pa_cons (pe_callB call_len_seq (by rfl) hlen PySem.boot_len (pa_cons (pv 0) pa_nil)) pa_nil))) (pa_cons pe_int pa_nil)))) (pg_name (i := 2) nd rfl (Or.inl rfl)) (pss_cons (ps_set (i := 3) nd rfl (Or.inl rfl) (pe_op op_cat (pe_slice sl_list (pv 0) (po_some (pv 2)) (po_some (pe_op op_add (pv 2) pe_int))) (pe_op op_rep (pe_lst (pa_cons (pv 2) pa_nil)) (pe_op op_sub (pe_op op_add (pv 2) pe_int) (pe_callB (call_min2 rfl) (by rfl) hmin PyProof.Rows.boot_min (pa_cons (pe_callB call_len_seq (by rfl) hlen PySem.boot_len (pa_cons (pv 0) pa_nil)) (pa_cons (pe_op op_add (pv 2) pe_int) pa_nil)))))))
      (pss_cons (ps_mid (ps_if (pt_cmpR op_le (pe_callB call_len_seq (by rfl) hlen PySem.boot_len (pa_cons (pv 0) pa_nil)) (pv 2) (nomark _)) (pss_one (ps_set (i := 3) nd rfl (Or.inl rfl) (pe_lst (pa_cons (pv 2) (pa_cons pe_int (pa_cons pe_int (pa_cons pe_int (pa_cons pe_int (pa_cons pe_int (pa_cons pe_int (pa_cons pe_int (pa_cons pe_int pa_nil)))))))))))) pss_nil))
      (pss_one (ps_if (pt_not (pt_val (pe_ok ON hr6 (by rfl) pass0 (pa_cons (pv 3) (pa_cons (pv 1) pa_nil))))) (pss_one (ps_ret pe_bl)) pss_nil)))))
      (pss_one (ps_ret pe_bl)))), ?_⟩
  refine ⟨_, rfl, a, ns, rfl, ha, fun H1 la lens s1 eL l1 l12 => ?_⟩
  obtain ⟨j, ej, j4, jn⟩ : ∃ j : Nat, (if ((ns.map V.int).length : Int) > 4 then ((ns.map V.int).length : Int) else 4) = j ∧ 4 ≤ j ∧ (j = ns.length ∨ (j = 4 ∧ ns.length ≤ 4)) := by
    rw [List.length_map]
    by_cases z : (ns.length : Int) > 4
    · exact ⟨ns.length, by rw [if_pos z], by omega, .inl rfl⟩
    · exact ⟨4, by rw [if_neg z]; rfl, Nat.le_refl _, .inr ⟨rfl, by omega⟩⟩
  refine ⟨_, rfl, a, _, rfl, .inl (sql_same ha s1), 4, _, rfl, 3, _, 9, ((j - 4) / 9 + 1 : Nat), rfl, ?_, ?_, ?_⟩
  · rw [ej]; exact ⟨by decide, by decide, by omega, by omega, by decide, by decide⟩
  · rw [ej]
    unfold Builtin.Range.rangeSize
    rw [if_pos (by decide), if_pos (by omega)]
    omega
  refine for_step (lo := 3) (c := 9) (n := (j - 4) / 9 + 1) (fun i σ J => ∃ (u2 u3 : Option V), σ = [some (.ref a), some (.ref la), u2, u3] ∧ Same H1 J) ⟨none, none, rfl, Same.refl _⟩ ?_ ?_
  · rintro i σ J hi ⟨u2, u3, rfl, sJ⟩
    obtain ⟨at', ea⟩ : ∃ at' : Nat, (3 : Int) + (i : Int) * 9 = at' := ⟨3 + i * 9, by omega⟩
    rw [ea]
    have lt : at' < j := by omega
    have sH := s1.trans sJ
    have ha' := sql_same ha sH
    refine ⟨_, rfl, _, rfl, _, rfl, _, rfl, _, _, rfl, rfl, _, rfl, a, _, rfl, ha', fun z nz => ?_⟩
    rw [cutV_int (by omega) (by omega)]
    have lc : (cutI ns (at' : Int) ((at' : Int) + 9)).length = min (at' + 9) ns.length - min at' ns.length := by
      unfold cutI
      rw [List.length_take, List.length_drop]
      omega
    generalize cutI ns (at' : Int) ((at' : Int) + 9) = cu at lc
    have s2 := same_upd (o := .lst (cu.map V.int)) (Same.refl J) nz
    have e2 : upd J z (.lst (cu.map V.int)) z = some (.lst (cu.map V.int)) := upd_same
    generalize upd J z (.lst (cu.map V.int)) = J2 at s2 e2
    refine ⟨_, rfl, (by show 1 ≤ sizeLine; decide), fun z1 nz1 => ?_⟩
    have s3 := same_upd (o := .lst [.int (at' : Int)]) (Same.refl J2) nz1
    have e3 : upd J2 z1 (.lst [.int (at' : Int)]) z1 = some (.lst [.int (at' : Int)]) := upd_same
    generalize upd J2 z1 (.lst [.int (at' : Int)]) = J3 at s3 e3
    have ha3 := sql_same ha' (s2.trans s3)
    refine ⟨_, rfl, _, _, rfl, rfl, _, rfl, a, _, rfl, .inl ha3, _, rfl, _, _, rfl, rfl, _, _, rfl, _, _, rfl, rfl, ?_⟩
    rw [List.length_map]
    obtain ⟨kk, ek, kz⟩ : ∃ kk : Nat, (at' : Int) + 9 - (if (at' : Int) + 9 < (ns.length : Int) then (at' : Int) + 9 else (ns.length : Int)) = kk ∧ kk + min (at' + 9) ns.length = at' + 9 := by
      by_cases y : (at' : Int) + 9 < (ns.length : Int)
      · exact ⟨0, by rw [if_pos y]; omega, by omega⟩
      · exact ⟨at' + 9 - ns.length, by rw [if_neg y]; omega, by omega⟩
    refine ⟨z1, _, _, rfl, rfl, e3, ?_, ?_, ?_, fun z2 nz2 => ?_⟩
    · rw [ek]; omega
    · rw [ek]; omega
    · rw [ek, Int.toNat_natCast]; show 1 * kk ≤ _; omega
    rw [ek, Int.toNat_natCast, flat_rep]
    have s4 := same_upd (o := .lst ((List.replicate kk (at' : Int)).map V.int)) (Same.refl J3) nz2
    have e4 : upd J3 z2 (.lst ((List.replicate kk (at' : Int)).map V.int)) z2 = some (.lst ((List.replicate kk (at' : Int)).map V.int)) := upd_same
    generalize upd J3 z2 (.lst ((List.replicate kk (at' : Int)).map V.int)) = J4 at s4 e4
    refine ⟨z, z2, _, _, rfl, rfl, (s3.trans s4) _ _ e2, e4, (by rw [List.length_map, List.length_map, List.length_replicate]; omega), fun ra nra => ?_⟩
    have s5 := same_upd (o := .lst ((cu.map V.int) ++ (List.replicate kk (at' : Int)).map V.int)) (Same.refl J4) nra
    have e5 : upd J4 ra (.lst ((cu.map V.int) ++ (List.replicate kk (at' : Int)).map V.int)) ra = some (.lst ((cu ++ List.replicate kk (at' : Int)).map V.int)) := by rw [upd_same, List.map_append]
    generalize upd J4 ra (.lst ((cu.map V.int) ++ (List.replicate kk (at' : Int)).map V.int)) = J5 at s5 e5
    have sJ5 := ((s2.trans s3).trans s4).trans s5
    refine ⟨fun σ' H' => Same J5 H' ∧ ∃ (ra : Addr) (row : List Int), H' ra = some (.lst (row.map V.int)) ∧ 2 ≤ row.length ∧ row.length ≤ 20 ∧ σ' = [some (.ref a), some (.ref la), some (.int (at' : Int)), some (.ref ra)], ?_, ?_⟩
    · refine ⟨_, rfl, a, _, rfl, .inl (sql_same ha' sJ5), _, rfl, _, _, rfl, rfl, _, rfl, ?_⟩
      rw [List.length_map]
      refine ite2 (fun y => ?_) (fun y => ?_)
      · refine ⟨_, rfl, (by show 9 ≤ sizeLine; decide), fun rb nrb => ?_⟩
        exact ⟨same_upd (Same.refl _) nrb, rb, [(at' : Int), 2, 3, 4, 5, 6, 7, 8, 9], upd_same, (by show 2 ≤ 9; decide), (by show 9 ≤ 20; decide), rfl⟩
      · have y : ¬ ((ns.length : Int) ≤ (at' : Int)) := by simpa using y
        refine ⟨Same.refl _, ra, _, e5, ?_, ?_, rfl⟩
        · rw [List.length_append, List.length_replicate]; omega
        · rw [List.length_append, List.length_replicate]; omega
    rintro σ' H' ⟨s6, rb, row, eR, r2, r20, rfl⟩
    have sH' := sJ5.trans s6
    exact ⟨_, rfl, _, rfl, rb, la, row, lens, rfl, eR, r2, r20, SqL.of ((sJ.trans sH') _ _ eL), l1, l12, fun H2 s7 => ⟨_, rfl, iteF ⟨_, _, rfl, (sJ.trans sH').trans s7⟩⟩⟩
  · rintro σ J ⟨u2, u3, rfl, sJ⟩
    exact k _
end
end K20
namespace K20
open PySem L2 FM ST
theorem all_mk {l : PySem.W.OpenLaw} {w : World} {K : PySem.W.Frag} {h : Heap} {mg : Str → Option Value} {fa f_y f_j f_i f_l f_z f_x f_k f_h f_r f_n f_q f_u f_p f_t f_v f_o f_m f_s f_w f_9 f_2 f_f f_8 f_0 f_a f_3 f_1 f_6 f_7 f_b f_c f_4 f_5 f_d f_e f_g C_Number C_Here C_Cell C_Shifted C_Local C_At C_Pair C_Choice C_Call C_Let C_Put C_Fold C_Running C_Till : Addr}  {od_y an_y od_j an_j od_i an_i od_l an_l od_z an_z od_x an_x od_k an_k od_h an_h od_r an_r od_n an_n od_q an_q od_u an_u od_p an_p od_t an_t od_v an_v od_o an_o od_m an_m od_s an_s od_w an_w od_9 an_9 od_2 an_2 od_f an_f od_8 an_8 od_0 an_0 od_a an_a od_3 an_3 od_1 an_1 od_6 an_6 od_7 an_7 od_b an_b od_c an_c od_4 an_4 od_5 an_5 od_d an_d od_e an_e od_g an_g : Option Addr} {sl_y sl_j sl_i sl_l sl_z sl_x sl_k sl_h sl_r sl_n sl_q sl_u sl_p sl_t sl_v sl_o sl_m sl_s sl_w sl_9 sl_2 sl_f sl_8 sl_0 sl_a sl_3 sl_1 sl_6 sl_7 sl_b sl_c sl_4 sl_5 sl_d sl_e sl_g : Array (Option Value)} {oc_y kV_y dc_y pm_y cd_y ct_y oc_j kV_j dc_j pm_j cd_j ct_j oc_i kV_i dc_i pm_i cd_i ct_i oc_l kV_l dc_l pm_l cd_l ct_l oc_z kV_z dc_z pm_z cd_z ct_z oc_x kV_x dc_x pm_x cd_x ct_x oc_k kV_k dc_k pm_k cd_k ct_k oc_h kV_h dc_h pm_h cd_h ct_h oc_r kV_r dc_r pm_r cd_r ct_r oc_n kV_n dc_n pm_n cd_n ct_n oc_q kV_q dc_q pm_q cd_q ct_q oc_u kV_u dc_u pm_u cd_u ct_u oc_p kV_p dc_p pm_p cd_p ct_p oc_t kV_t dc_t pm_t cd_t ct_t oc_v kV_v dc_v pm_v cd_v ct_v oc_o kV_o dc_o pm_o cd_o ct_o oc_m kV_m dc_m pm_m cd_m ct_m oc_s kV_s dc_s pm_s cd_s ct_s oc_w kV_w dc_w pm_w cd_w ct_w oc_9 kV_9 dc_9 pm_9 cd_9 ct_9 oc_2 kV_2 dc_2 pm_2 cd_2 ct_2 oc_f kV_f dc_f pm_f cd_f ct_f oc_8 kV_8 dc_8 pm_8 cd_8 ct_8 oc_0 kV_0 dc_0 pm_0 cd_0 ct_0 oc_a kV_a dc_a pm_a cd_a ct_a oc_3 kV_3 dc_3 pm_3 cd_3 ct_3 oc_1 kV_1 dc_1 pm_1 cd_1 ct_1 oc_6 kV_6 dc_6 pm_6 cd_6 ct_6 oc_7 kV_7 dc_7 pm_7 cd_7 ct_7 oc_b kV_b dc_b pm_b cd_b ct_b oc_c kV_c dc_c pm_c cd_c ct_c oc_4 kV_4 dc_4 pm_4 cd_4 ct_4 oc_5 kV_5 dc_5 pm_5 cd_5 ct_5 oc_d kV_d dc_d pm_d cd_d ct_d oc_e kV_e dc_e pm_e cd_e ct_e oc_g kV_g dc_g pm_g cd_g ct_g : Value} {T_6 : Addr} {ocT_6 : Value} {odT_6 : Option Addr} {slT_6 : Array (Option Value)} {nT_6 : Nat} {T_b : Addr} {ocT_b : Value} {odT_b : Option Addr} {slT_b : Array (Option Value)} {nT_b : Nat} {T_4 : Addr} {ocT_4 : Value} {odT_4 : Option Addr} {slT_4 : Array (Option Value)} {nT_4 : Nat} {T_d : Addr} {ocT_d : Value} {odT_d : Option Addr} {slT_d : Array (Option Value)} {nT_d : Nat} (X : K.In h) (G : h.Ns mainGlobals mg) (hfa : mg "law" = some (.ref fa))
    (a_parts_of : PySem.W.nsIn K mainGlobals "parts_of" = some (some (.ref f_y))) (l_y : K.lookup f_y = some ⟨oc_y, od_y, .func (PySem.W.fnOf "parts_of" "parts_of" (defArgs s_parts_of) (defBody s_parts_of) (defScope s_parts_of) .none kV_y dc_y pm_y an_y cd_y ct_y), sl_y⟩) (c_y : PySem.W.codeIn K cd_y "parts_of" = true) (k_y : PySem.W.keepIn K (.ref f_y) = true)
    (a_forms_within : PySem.W.nsIn K mainGlobals "forms_within" = some (some (.ref f_j))) (l_j : K.lookup f_j = some ⟨oc_j, od_j, .func (PySem.W.fnOf "forms_within" "forms_within" (defArgs s_forms_within) (defBody s_forms_within) (defScope s_forms_within) .none kV_j dc_j pm_j an_j cd_j ct_j), sl_j⟩) (c_j : PySem.W.codeIn K cd_j "forms_within" = true) (k_j : PySem.W.keepIn K (.ref f_j) = true)
    (a_forms_of : PySem.W.nsIn K mainGlobals "forms_of" = some (some (.ref f_i))) (l_i : K.lookup f_i = some ⟨oc_i, od_i, .func (PySem.W.fnOf "forms_of" "forms_of" (defArgs s_forms_of) (defBody s_forms_of) (defScope s_forms_of) .none kV_i dc_i pm_i an_i cd_i ct_i), sl_i⟩) (c_i : PySem.W.codeIn K cd_i "forms_of" = true) (k_i : PySem.W.keepIn K (.ref f_i) = true)
    (a_is_uneven_form : PySem.W.nsIn K mainGlobals "is_uneven_form" = some (some (.ref f_l))) (l_l : K.lookup f_l = some ⟨oc_l, od_l, .func (PySem.W.fnOf "is_uneven_form" "is_uneven_form" (defArgs s_is_uneven_form) (defBody s_is_uneven_form) (defScope s_is_uneven_form) .none kV_l dc_l pm_l an_l cd_l ct_l), sl_l⟩) (c_l : PySem.W.codeIn K cd_l "is_uneven_form" = true) (k_l : PySem.W.keepIn K (.ref f_l) = true)
    (a_uneven : PySem.W.nsIn K mainGlobals "uneven" = some (some (.ref f_z))) (l_z : K.lookup f_z = some ⟨oc_z, od_z, .func (PySem.W.fnOf "uneven" "uneven" (defArgs s_uneven) (defBody s_uneven) (defScope s_uneven) .none kV_z dc_z pm_z an_z cd_z ct_z), sl_z⟩) (c_z : PySem.W.codeIn K cd_z "uneven" = true) (k_z : PySem.W.keepIn K (.ref f_z) = true)
    (a_may_cross : PySem.W.nsIn K mainGlobals "may_cross" = some (some (.ref f_x))) (l_x : K.lookup f_x = some ⟨oc_x, od_x, .func (PySem.W.fnOf "may_cross" "may_cross" (defArgs s_may_cross) (defBody s_may_cross) (defScope s_may_cross) .none kV_x dc_x pm_x an_x cd_x ct_x), sl_x⟩) (c_x : PySem.W.codeIn K cd_x "may_cross" = true) (k_x : PySem.W.keepIn K (.ref f_x) = true)
    (a_is_crossed_form : PySem.W.nsIn K mainGlobals "is_crossed_form" = some (some (.ref f_k))) (l_k : K.lookup f_k = some ⟨oc_k, od_k, .func (PySem.W.fnOf "is_crossed_form" "is_crossed_form" (defArgs s_is_crossed_form) (defBody s_is_crossed_form) (defScope s_is_crossed_form) .none kV_k dc_k pm_k an_k cd_k ct_k), sl_k⟩) (c_k : PySem.W.codeIn K cd_k "is_crossed_form" = true) (k_k : PySem.W.keepIn K (.ref f_k) = true)
    (a_crossed : PySem.W.nsIn K mainGlobals "crossed" = some (some (.ref f_h))) (l_h : K.lookup f_h = some ⟨oc_h, od_h, .func (PySem.W.fnOf "crossed" "crossed" (defArgs s_crossed) (defBody s_crossed) (defScope s_crossed) .none kV_h dc_h pm_h an_h cd_h ct_h), sl_h⟩) (c_h : PySem.W.codeIn K cd_h "crossed" = true) (k_h : PySem.W.keepIn K (.ref f_h) = true)
    (a_l_mixed : PySem.W.nsIn K mainGlobals "_law_mixed" = some (some (.ref f_r))) (l_r : K.lookup f_r = some ⟨oc_r, od_r, .func (PySem.W.fnOf "_law_mixed" "_law_mixed" (defArgs s_l_mixed) (defBody s_l_mixed) (defScope s_l_mixed) .none kV_r dc_r pm_r an_r cd_r ct_r), sl_r⟩) (c_r : PySem.W.codeIn K cd_r "_law_mixed" = true) (k_r : PySem.W.keepIn K (.ref f_r) = true)
    (a_l_cell_at : PySem.W.nsIn K mainGlobals "_law_cell_at" = some (some (.ref f_n))) (l_n : K.lookup f_n = some ⟨oc_n, od_n, .func (PySem.W.fnOf "_law_cell_at" "_law_cell_at" (defArgs s_l_cell_at) (defBody s_l_cell_at) (defScope s_l_cell_at) .none kV_n dc_n pm_n an_n cd_n ct_n), sl_n⟩) (c_n : PySem.W.codeIn K cd_n "_law_cell_at" = true) (k_n : PySem.W.keepIn K (.ref f_n) = true)
    (a_l_lengths_by : PySem.W.nsIn K mainGlobals "_law_lengths_by" = some (some (.ref f_q))) (l_q : K.lookup f_q = some ⟨oc_q, od_q, .func (PySem.W.fnOf "_law_lengths_by" "_law_lengths_by" (defArgs s_l_lengths_by) (defBody s_l_lengths_by) (defScope s_l_lengths_by) .none kV_q dc_q pm_q an_q cd_q ct_q), sl_q⟩) (c_q : PySem.W.codeIn K cd_q "_law_lengths_by" = true) (k_q : PySem.W.keepIn K (.ref f_q) = true)
    (a_l_row_by : PySem.W.nsIn K mainGlobals "_law_row_by" = some (some (.ref f_u))) (l_u : K.lookup f_u = some ⟨oc_u, od_u, .func (PySem.W.fnOf "_law_row_by" "_law_row_by" (defArgs s_l_row_by) (defBody s_l_row_by) (defScope s_l_row_by) .none kV_u dc_u pm_u an_u cd_u ct_u), sl_u⟩) (c_u : PySem.W.codeIn K cd_u "_law_row_by" = true) (k_u : PySem.W.keepIn K (.ref f_u) = true)
    (a_l_leaf_by : PySem.W.nsIn K mainGlobals "_law_leaf_by" = some (some (.ref f_p))) (l_p : K.lookup f_p = some ⟨oc_p, od_p, .func (PySem.W.fnOf "_law_leaf_by" "_law_leaf_by" (defArgs s_l_leaf_by) (defBody s_l_leaf_by) (defScope s_l_leaf_by) .none kV_p dc_p pm_p an_p cd_p ct_p), sl_p⟩) (c_p : PySem.W.codeIn K cd_p "_law_leaf_by" = true) (k_p : PySem.W.keepIn K (.ref f_p) = true)
    (a_l_pushed : PySem.W.nsIn K mainGlobals "_law_pushed" = some (some (.ref f_t))) (l_t : K.lookup f_t = some ⟨oc_t, od_t, .func (PySem.W.fnOf "_law_pushed" "_law_pushed" (defArgs s_l_pushed) (defBody s_l_pushed) (defScope s_l_pushed) .none kV_t dc_t pm_t an_t cd_t ct_t), sl_t⟩) (c_t : PySem.W.codeIn K cd_t "_law_pushed" = true) (k_t : PySem.W.keepIn K (.ref f_t) = true)
    (a_l_step_by : PySem.W.nsIn K mainGlobals "_law_step_by" = some (some (.ref f_v))) (l_v : K.lookup f_v = some ⟨oc_v, od_v, .func (PySem.W.fnOf "_law_step_by" "_law_step_by" (defArgs s_l_step_by) (defBody s_l_step_by) (defScope s_l_step_by) .none kV_v dc_v pm_v an_v cd_v ct_v), sl_v⟩) (c_v : PySem.W.codeIn K cd_v "_law_step_by" = true) (k_v : PySem.W.keepIn K (.ref f_v) = true)
    (a_l_due : PySem.W.nsIn K mainGlobals "_law_due" = some (some (.ref f_o))) (l_o : K.lookup f_o = some ⟨oc_o, od_o, .func (PySem.W.fnOf "_law_due" "_law_due" (defArgs s_l_due) (defBody s_l_due) (defScope s_l_due) .none kV_o dc_o pm_o an_o cd_o ct_o), sl_o⟩) (c_o : PySem.W.codeIn K cd_o "_law_due" = true) (k_o : PySem.W.keepIn K (.ref f_o) = true)
    (a_l_asked : PySem.W.nsIn K mainGlobals "_law_asked" = some (some (.ref f_m))) (l_m : K.lookup f_m = some ⟨oc_m, od_m, .func (PySem.W.fnOf "_law_asked" "_law_asked" (defArgs s_l_asked) (defBody s_l_asked) (defScope s_l_asked) .none kV_m dc_m pm_m an_m cd_m ct_m), sl_m⟩) (c_m : PySem.W.codeIn K cd_m "_law_asked" = true) (k_m : PySem.W.keepIn K (.ref f_m) = true)
    (a_l_one : PySem.W.nsIn K mainGlobals "_law_one" = some (some (.ref f_s))) (l_s : K.lookup f_s = some ⟨oc_s, od_s, .func (PySem.W.fnOf "_law_one" "_law_one" (defArgs s_l_one) (defBody s_l_one) (defScope s_l_one) .none kV_s dc_s pm_s an_s cd_s ct_s), sl_s⟩) (c_s : PySem.W.codeIn K cd_s "_law_one" = true) (k_s : PySem.W.keepIn K (.ref f_s) = true)
    (a_law : PySem.W.nsIn K mainGlobals "law" = some (some (.ref f_w))) (l_w : K.lookup f_w = some ⟨oc_w, od_w, .func (PySem.W.fnOf "law" "law" (defArgs s_law) (defBody s_law) (defScope s_law) .none kV_w dc_w pm_w an_w cd_w ct_w), sl_w⟩) (c_w : PySem.W.codeIn K cd_w "law" = true) (k_w : PySem.W.keepIn K (.ref f_w) = true)
    (a_C_Number : PySem.W.nsIn K mainGlobals "Number" = some (some (.ref C_Number))) (c1_C_Number : PySem.W.plainGet K C_Number Str.empty = true) (c2_C_Number : PySem.W.hasDictIn K C_Number = true) (c3_C_Number : PySem.W.plainOver K C_Number = true) (c4_C_Number : PySem.W.findIn K (.ref C_Number) "__setattr__" = some (some (.builtin "object.__setattr__")))
    (n_C_Number_number : PySem.W.findIn K (.ref C_Number) "number" = some none)
    (mk_C_Number : PySem.W.makesIn K C_Number = true) (kC_C_Number : PySem.W.keepIn K (.ref C_Number) = true)
    (at_9 : PySem.W.findIn K (.ref C_Number) "__init__" = some (some (.ref f_9))) (fn_9 : PySem.W.isFn K (.ref f_9) = true) (l_9 : K.lookup f_9 = some ⟨oc_9, od_9, .func (PySem.W.fnOf "__init__" "Number.__init__" (defArgs s_Number_init) (defBody s_Number_init) (defScope s_Number_init) .none kV_9 dc_9 pm_9 an_9 cd_9 ct_9), sl_9⟩) (c_9 : PySem.W.codeIn K cd_9 "Number.__init__" = true) (k_9 : PySem.W.keepIn K (.ref f_9) = true)
    (a_C_Here : PySem.W.nsIn K mainGlobals "Here" = some (some (.ref C_Here))) (c1_C_Here : PySem.W.plainGet K C_Here Str.empty = true) (c2_C_Here : PySem.W.hasDictIn K C_Here = true) (c3_C_Here : PySem.W.plainOver K C_Here = true) (c4_C_Here : PySem.W.findIn K (.ref C_Here) "__setattr__" = some (some (.builtin "object.__setattr__")))
    (mk_C_Here : PySem.W.makesIn K C_Here = true) (kC_C_Here : PySem.W.keepIn K (.ref C_Here) = true) (in_C_Here : PySem.W.findIn K (.ref C_Here) "__init__" = some (some (.builtin "object.__init__")))
    (a_C_Cell : PySem.W.nsIn K mainGlobals "Cell" = some (some (.ref C_Cell))) (c1_C_Cell : PySem.W.plainGet K C_Cell Str.empty = true) (c2_C_Cell : PySem.W.hasDictIn K C_Cell = true) (c3_C_Cell : PySem.W.plainOver K C_Cell = true) (c4_C_Cell : PySem.W.findIn K (.ref C_Cell) "__setattr__" = some (some (.builtin "object.__setattr__")))
    (n_C_Cell_row : PySem.W.findIn K (.ref C_Cell) "row" = some none)
    (mk_C_Cell : PySem.W.makesIn K C_Cell = true) (kC_C_Cell : PySem.W.keepIn K (.ref C_Cell) = true)
    (at_2 : PySem.W.findIn K (.ref C_Cell) "__init__" = some (some (.ref f_2))) (fn_2 : PySem.W.isFn K (.ref f_2) = true) (l_2 : K.lookup f_2 = some ⟨oc_2, od_2, .func (PySem.W.fnOf "__init__" "Cell.__init__" (defArgs s_Cell_init) (defBody s_Cell_init) (defScope s_Cell_init) .none kV_2 dc_2 pm_2 an_2 cd_2 ct_2), sl_2⟩) (c_2 : PySem.W.codeIn K cd_2 "Cell.__init__" = true) (k_2 : PySem.W.keepIn K (.ref f_2) = true)
    (a_C_Shifted : PySem.W.nsIn K mainGlobals "Shifted" = some (some (.ref C_Shifted))) (c1_C_Shifted : PySem.W.plainGet K C_Shifted Str.empty = true) (c2_C_Shifted : PySem.W.hasDictIn K C_Shifted = true) (c3_C_Shifted : PySem.W.plainOver K C_Shifted = true) (c4_C_Shifted : PySem.W.findIn K (.ref C_Shifted) "__setattr__" = some (some (.builtin "object.__setattr__")))
    (n_C_Shifted_row : PySem.W.findIn K (.ref C_Shifted) "row" = some none)
    (n_C_Shifted_by : PySem.W.findIn K (.ref C_Shifted) "by" = some none)
    (n_C_Shifted_other : PySem.W.findIn K (.ref C_Shifted) "other" = some none)
    (mk_C_Shifted : PySem.W.makesIn K C_Shifted = true) (kC_C_Shifted : PySem.W.keepIn K (.ref C_Shifted) = true)
    (at_f : PySem.W.findIn K (.ref C_Shifted) "__init__" = some (some (.ref f_f))) (fn_f : PySem.W.isFn K (.ref f_f) = true) (l_f : K.lookup f_f = some ⟨oc_f, od_f, .func (PySem.W.fnOf "__init__" "Shifted.__init__" (defArgs s_Shifted_init) (defBody s_Shifted_init) (defScope s_Shifted_init) .none kV_f dc_f pm_f an_f cd_f ct_f), sl_f⟩) (c_f : PySem.W.codeIn K cd_f "Shifted.__init__" = true) (k_f : PySem.W.keepIn K (.ref f_f) = true)
    (a_C_Local : PySem.W.nsIn K mainGlobals "Local" = some (some (.ref C_Local))) (c1_C_Local : PySem.W.plainGet K C_Local Str.empty = true) (c2_C_Local : PySem.W.hasDictIn K C_Local = true) (c3_C_Local : PySem.W.plainOver K C_Local = true) (c4_C_Local : PySem.W.findIn K (.ref C_Local) "__setattr__" = some (some (.builtin "object.__setattr__")))
    (n_C_Local_at : PySem.W.findIn K (.ref C_Local) "at" = some none)
    (mk_C_Local : PySem.W.makesIn K C_Local = true) (kC_C_Local : PySem.W.keepIn K (.ref C_Local) = true)
    (at_8 : PySem.W.findIn K (.ref C_Local) "__init__" = some (some (.ref f_8))) (fn_8 : PySem.W.isFn K (.ref f_8) = true) (l_8 : K.lookup f_8 = some ⟨oc_8, od_8, .func (PySem.W.fnOf "__init__" "Local.__init__" (defArgs s_Local_init) (defBody s_Local_init) (defScope s_Local_init) .none kV_8 dc_8 pm_8 an_8 cd_8 ct_8), sl_8⟩) (c_8 : PySem.W.codeIn K cd_8 "Local.__init__" = true) (k_8 : PySem.W.keepIn K (.ref f_8) = true)
    (a_C_At : PySem.W.nsIn K mainGlobals "At" = some (some (.ref C_At))) (c1_C_At : PySem.W.plainGet K C_At Str.empty = true) (c2_C_At : PySem.W.hasDictIn K C_At = true) (c3_C_At : PySem.W.plainOver K C_At = true) (c4_C_At : PySem.W.findIn K (.ref C_At) "__setattr__" = some (some (.builtin "object.__setattr__")))
    (n_C_At_row : PySem.W.findIn K (.ref C_At) "row" = some none)
    (n_C_At_place : PySem.W.findIn K (.ref C_At) "place" = some none)
    (mk_C_At : PySem.W.makesIn K C_At = true) (kC_C_At : PySem.W.keepIn K (.ref C_At) = true)
    (at_0 : PySem.W.findIn K (.ref C_At) "__init__" = some (some (.ref f_0))) (fn_0 : PySem.W.isFn K (.ref f_0) = true) (l_0 : K.lookup f_0 = some ⟨oc_0, od_0, .func (PySem.W.fnOf "__init__" "At.__init__" (defArgs s_At_init) (defBody s_At_init) (defScope s_At_init) .none kV_0 dc_0 pm_0 an_0 cd_0 ct_0), sl_0⟩) (c_0 : PySem.W.codeIn K cd_0 "At.__init__" = true) (k_0 : PySem.W.keepIn K (.ref f_0) = true)
    (a_C_Pair : PySem.W.nsIn K mainGlobals "Pair" = some (some (.ref C_Pair))) (c1_C_Pair : PySem.W.plainGet K C_Pair Str.empty = true) (c2_C_Pair : PySem.W.hasDictIn K C_Pair = true) (c3_C_Pair : PySem.W.plainOver K C_Pair = true) (c4_C_Pair : PySem.W.findIn K (.ref C_Pair) "__setattr__" = some (some (.builtin "object.__setattr__")))
    (n_C_Pair_sign : PySem.W.findIn K (.ref C_Pair) "sign" = some none)
    (n_C_Pair_left : PySem.W.findIn K (.ref C_Pair) "left" = some none)
    (n_C_Pair_right : PySem.W.findIn K (.ref C_Pair) "right" = some none)
    (mk_C_Pair : PySem.W.makesIn K C_Pair = true) (kC_C_Pair : PySem.W.keepIn K (.ref C_Pair) = true)
    (at_a : PySem.W.findIn K (.ref C_Pair) "__init__" = some (some (.ref f_a))) (fn_a : PySem.W.isFn K (.ref f_a) = true) (l_a : K.lookup f_a = some ⟨oc_a, od_a, .func (PySem.W.fnOf "__init__" "Pair.__init__" (defArgs s_Pair_init) (defBody s_Pair_init) (defScope s_Pair_init) .none kV_a dc_a pm_a an_a cd_a ct_a), sl_a⟩) (c_a : PySem.W.codeIn K cd_a "Pair.__init__" = true) (k_a : PySem.W.keepIn K (.ref f_a) = true)
    (a_C_Choice : PySem.W.nsIn K mainGlobals "Choice" = some (some (.ref C_Choice))) (c1_C_Choice : PySem.W.plainGet K C_Choice Str.empty = true) (c2_C_Choice : PySem.W.hasDictIn K C_Choice = true) (c3_C_Choice : PySem.W.plainOver K C_Choice = true) (c4_C_Choice : PySem.W.findIn K (.ref C_Choice) "__setattr__" = some (some (.builtin "object.__setattr__")))
    (n_C_Choice_test : PySem.W.findIn K (.ref C_Choice) "test" = some none)
    (n_C_Choice_left : PySem.W.findIn K (.ref C_Choice) "left" = some none)
    (n_C_Choice_right : PySem.W.findIn K (.ref C_Choice) "right" = some none)
    (mk_C_Choice : PySem.W.makesIn K C_Choice = true) (kC_C_Choice : PySem.W.keepIn K (.ref C_Choice) = true)
    (at_3 : PySem.W.findIn K (.ref C_Choice) "__init__" = some (some (.ref f_3))) (fn_3 : PySem.W.isFn K (.ref f_3) = true) (l_3 : K.lookup f_3 = some ⟨oc_3, od_3, .func (PySem.W.fnOf "__init__" "Choice.__init__" (defArgs s_Choice_init) (defBody s_Choice_init) (defScope s_Choice_init) .none kV_3 dc_3 pm_3 an_3 cd_3 ct_3), sl_3⟩) (c_3 : PySem.W.codeIn K cd_3 "Choice.__init__" = true) (k_3 : PySem.W.keepIn K (.ref f_3) = true)
    (a_C_Call : PySem.W.nsIn K mainGlobals "Call" = some (some (.ref C_Call))) (c1_C_Call : PySem.W.plainGet K C_Call Str.empty = true) (c2_C_Call : PySem.W.hasDictIn K C_Call = true) (c3_C_Call : PySem.W.plainOver K C_Call = true) (c4_C_Call : PySem.W.findIn K (.ref C_Call) "__setattr__" = some (some (.builtin "object.__setattr__")))
    (n_C_Call_at : PySem.W.findIn K (.ref C_Call) "at" = some none)
    (n_C_Call_handed : PySem.W.findIn K (.ref C_Call) "handed" = some none)
    (mk_C_Call : PySem.W.makesIn K C_Call = true) (kC_C_Call : PySem.W.keepIn K (.ref C_Call) = true)
    (at_1 : PySem.W.findIn K (.ref C_Call) "__init__" = some (some (.ref f_1))) (fn_1 : PySem.W.isFn K (.ref f_1) = true) (l_1 : K.lookup f_1 = some ⟨oc_1, od_1, .func (PySem.W.fnOf "__init__" "Call.__init__" (defArgs s_Call_init) (defBody s_Call_init) (defScope s_Call_init) .none kV_1 dc_1 pm_1 an_1 cd_1 ct_1), sl_1⟩) (c_1 : PySem.W.codeIn K cd_1 "Call.__init__" = true) (k_1 : PySem.W.keepIn K (.ref f_1) = true)
    (a_C_Let : PySem.W.nsIn K mainGlobals "Let" = some (some (.ref C_Let))) (c1_C_Let : PySem.W.plainGet K C_Let Str.empty = true) (c2_C_Let : PySem.W.hasDictIn K C_Let = true) (c3_C_Let : PySem.W.plainOver K C_Let = true) (c4_C_Let : PySem.W.findIn K (.ref C_Let) "__setattr__" = some (some (.builtin "object.__setattr__")))
    (n_C_Let_target : PySem.W.findIn K (.ref C_Let) "target" = some none)
    (n_C_Let_value : PySem.W.findIn K (.ref C_Let) "value" = some none)
    (n_C_Let_test : PySem.W.findIn K (.ref C_Let) "test" = some none)
    (mk_C_Let : PySem.W.makesIn K C_Let = true) (kC_C_Let : PySem.W.keepIn K (.ref C_Let) = true)
    (at_6 : PySem.W.findIn K (.ref C_Let) "__init__" = some (some (.ref f_6))) (fn_6 : PySem.W.isFn K (.ref f_6) = true) (l_6 : K.lookup f_6 = some ⟨oc_6, od_6, .func (PySem.W.fnOf "__init__" "Let.__init__" (defArgs s_Let_init) (defBody s_Let_init) (defScope s_Let_init) (.ref T_6) kV_6 dc_6 pm_6 an_6 cd_6 ct_6), sl_6⟩) (c_6 : PySem.W.codeIn K cd_6 "Let.__init__" = true) (k_6 : PySem.W.keepIn K (.ref f_6) = true)
    (lT_6 : K.lookup T_6 = some ⟨ocT_6, odT_6, .seq #[.none] nT_6, slT_6⟩)
    (at_7 : PySem.W.findIn K (.ref C_Let) "many_of" = some (some (.ref f_7))) (fn_7 : PySem.W.isFn K (.ref f_7) = true) (l_7 : K.lookup f_7 = some ⟨oc_7, od_7, .func (PySem.W.fnOf "many_of" "Let.many_of" (defArgs s_Let_many_of) (defBody s_Let_many_of) (defScope s_Let_many_of) .none kV_7 dc_7 pm_7 an_7 cd_7 ct_7), sl_7⟩) (c_7 : PySem.W.codeIn K cd_7 "Let.many_of" = true) (k_7 : PySem.W.keepIn K (.ref f_7) = true)
    (a_C_Put : PySem.W.nsIn K mainGlobals "Put" = some (some (.ref C_Put))) (c1_C_Put : PySem.W.plainGet K C_Put Str.empty = true) (c2_C_Put : PySem.W.hasDictIn K C_Put = true) (c3_C_Put : PySem.W.plainOver K C_Put = true) (c4_C_Put : PySem.W.findIn K (.ref C_Put) "__setattr__" = some (some (.builtin "object.__setattr__")))
    (n_C_Put_target : PySem.W.findIn K (.ref C_Put) "target" = some none)
    (n_C_Put_value : PySem.W.findIn K (.ref C_Put) "value" = some none)
    (n_C_Put_place : PySem.W.findIn K (.ref C_Put) "place" = some none)
    (n_C_Put_many : PySem.W.findIn K (.ref C_Put) "many" = some none)
    (n_C_Put_test : PySem.W.findIn K (.ref C_Put) "test" = some none)
    (mk_C_Put : PySem.W.makesIn K C_Put = true) (kC_C_Put : PySem.W.keepIn K (.ref C_Put) = true)
    (at_b : PySem.W.findIn K (.ref C_Put) "__init__" = some (some (.ref f_b))) (fn_b : PySem.W.isFn K (.ref f_b) = true) (l_b : K.lookup f_b = some ⟨oc_b, od_b, .func (PySem.W.fnOf "__init__" "Put.__init__" (defArgs s_Put_init) (defBody s_Put_init) (defScope s_Put_init) (.ref T_b) kV_b dc_b pm_b an_b cd_b ct_b), sl_b⟩) (c_b : PySem.W.codeIn K cd_b "Put.__init__" = true) (k_b : PySem.W.keepIn K (.ref f_b) = true)
    (lT_b : K.lookup T_b = some ⟨ocT_b, odT_b, .seq #[.none] nT_b, slT_b⟩)
    (at_c : PySem.W.findIn K (.ref C_Put) "many_of" = some (some (.ref f_c))) (fn_c : PySem.W.isFn K (.ref f_c) = true) (l_c : K.lookup f_c = some ⟨oc_c, od_c, .func (PySem.W.fnOf "many_of" "Put.many_of" (defArgs s_Put_many_of) (defBody s_Put_many_of) (defScope s_Put_many_of) .none kV_c dc_c pm_c an_c cd_c ct_c), sl_c⟩) (c_c : PySem.W.codeIn K cd_c "Put.many_of" = true) (k_c : PySem.W.keepIn K (.ref f_c) = true)
    (a_C_Fold : PySem.W.nsIn K mainGlobals "Fold" = some (some (.ref C_Fold))) (c1_C_Fold : PySem.W.plainGet K C_Fold Str.empty = true) (c2_C_Fold : PySem.W.hasDictIn K C_Fold = true) (c3_C_Fold : PySem.W.plainOver K C_Fold = true) (c4_C_Fold : PySem.W.findIn K (.ref C_Fold) "__setattr__" = some (some (.builtin "object.__setattr__")))
    (n_C_Fold_target : PySem.W.findIn K (.ref C_Fold) "target" = some none)
    (n_C_Fold_fold : PySem.W.findIn K (.ref C_Fold) "fold" = some none)
    (n_C_Fold_value : PySem.W.findIn K (.ref C_Fold) "value" = some none)
    (n_C_Fold_many : PySem.W.findIn K (.ref C_Fold) "many" = some none)
    (n_C_Fold_test : PySem.W.findIn K (.ref C_Fold) "test" = some none)
    (mk_C_Fold : PySem.W.makesIn K C_Fold = true) (kC_C_Fold : PySem.W.keepIn K (.ref C_Fold) = true)
    (at_4 : PySem.W.findIn K (.ref C_Fold) "__init__" = some (some (.ref f_4))) (fn_4 : PySem.W.isFn K (.ref f_4) = true) (l_4 : K.lookup f_4 = some ⟨oc_4, od_4, .func (PySem.W.fnOf "__init__" "Fold.__init__" (defArgs s_Fold_init) (defBody s_Fold_init) (defScope s_Fold_init) (.ref T_4) kV_4 dc_4 pm_4 an_4 cd_4 ct_4), sl_4⟩) (c_4 : PySem.W.codeIn K cd_4 "Fold.__init__" = true) (k_4 : PySem.W.keepIn K (.ref f_4) = true)
    (lT_4 : K.lookup T_4 = some ⟨ocT_4, odT_4, .seq #[.none] nT_4, slT_4⟩)
    (at_5 : PySem.W.findIn K (.ref C_Fold) "many_of" = some (some (.ref f_5))) (fn_5 : PySem.W.isFn K (.ref f_5) = true) (l_5 : K.lookup f_5 = some ⟨oc_5, od_5, .func (PySem.W.fnOf "many_of" "Fold.many_of" (defArgs s_Fold_many_of) (defBody s_Fold_many_of) (defScope s_Fold_many_of) .none kV_5 dc_5 pm_5 an_5 cd_5 ct_5), sl_5⟩) (c_5 : PySem.W.codeIn K cd_5 "Fold.many_of" = true) (k_5 : PySem.W.keepIn K (.ref f_5) = true)
    (a_C_Running : PySem.W.nsIn K mainGlobals "Running" = some (some (.ref C_Running))) (c1_C_Running : PySem.W.plainGet K C_Running Str.empty = true) (c2_C_Running : PySem.W.hasDictIn K C_Running = true) (c3_C_Running : PySem.W.plainOver K C_Running = true) (c4_C_Running : PySem.W.findIn K (.ref C_Running) "__setattr__" = some (some (.builtin "object.__setattr__")))
    (n_C_Running_target : PySem.W.findIn K (.ref C_Running) "target" = some none)
    (n_C_Running_fold : PySem.W.findIn K (.ref C_Running) "fold" = some none)
    (n_C_Running_value : PySem.W.findIn K (.ref C_Running) "value" = some none)
    (n_C_Running_test : PySem.W.findIn K (.ref C_Running) "test" = some none)
    (mk_C_Running : PySem.W.makesIn K C_Running = true) (kC_C_Running : PySem.W.keepIn K (.ref C_Running) = true)
    (at_d : PySem.W.findIn K (.ref C_Running) "__init__" = some (some (.ref f_d))) (fn_d : PySem.W.isFn K (.ref f_d) = true) (l_d : K.lookup f_d = some ⟨oc_d, od_d, .func (PySem.W.fnOf "__init__" "Running.__init__" (defArgs s_Running_init) (defBody s_Running_init) (defScope s_Running_init) (.ref T_d) kV_d dc_d pm_d an_d cd_d ct_d), sl_d⟩) (c_d : PySem.W.codeIn K cd_d "Running.__init__" = true) (k_d : PySem.W.keepIn K (.ref f_d) = true)
    (lT_d : K.lookup T_d = some ⟨ocT_d, odT_d, .seq #[.none] nT_d, slT_d⟩)
    (at_e : PySem.W.findIn K (.ref C_Running) "many_of" = some (some (.ref f_e))) (fn_e : PySem.W.isFn K (.ref f_e) = true) (l_e : K.lookup f_e = some ⟨oc_e, od_e, .func (PySem.W.fnOf "many_of" "Running.many_of" (defArgs s_Running_many_of) (defBody s_Running_many_of) (defScope s_Running_many_of) .none kV_e dc_e pm_e an_e cd_e ct_e), sl_e⟩) (c_e : PySem.W.codeIn K cd_e "Running.many_of" = true) (k_e : PySem.W.keepIn K (.ref f_e) = true)
    (a_C_Till : PySem.W.nsIn K mainGlobals "Till" = some (some (.ref C_Till))) (c1_C_Till : PySem.W.plainGet K C_Till Str.empty = true) (c2_C_Till : PySem.W.hasDictIn K C_Till = true) (c3_C_Till : PySem.W.plainOver K C_Till = true) (c4_C_Till : PySem.W.findIn K (.ref C_Till) "__setattr__" = some (some (.builtin "object.__setattr__")))
    (n_C_Till_target : PySem.W.findIn K (.ref C_Till) "target" = some none)
    (n_C_Till_most : PySem.W.findIn K (.ref C_Till) "most" = some none)
    (n_C_Till_steps : PySem.W.findIn K (.ref C_Till) "steps" = some none)
    (mk_C_Till : PySem.W.makesIn K C_Till = true) (kC_C_Till : PySem.W.keepIn K (.ref C_Till) = true)
    (at_g : PySem.W.findIn K (.ref C_Till) "__init__" = some (some (.ref f_g))) (fn_g : PySem.W.isFn K (.ref f_g) = true) (l_g : K.lookup f_g = some ⟨oc_g, od_g, .func (PySem.W.fnOf "__init__" "Till.__init__" (defArgs s_Till_init) (defBody s_Till_init) (defScope s_Till_init) .none kV_g dc_g pm_g an_g cd_g ct_g), sl_g⟩) (c_g : PySem.W.codeIn K cd_g "Till.__init__" = true) (k_g : PySem.W.keepIn K (.ref f_g) = true)
    (z_isinstance : PySem.W.nsIn K mainGlobals "isinstance" = some none)
    (z_bool : PySem.W.nsIn K mainGlobals "bool" = some none)
    (z_max : PySem.W.nsIn K mainGlobals "max" = some none)
    (z_min : PySem.W.nsIn K mainGlobals "min" = some none)
    (z_len : PySem.W.nsIn K mainGlobals "len" = some none)
    (z_range : PySem.W.nsIn K mainGlobals "range" = some none)
    (z_list : PySem.W.nsIn K mainGlobals "list" = some none)
    (z_any : PySem.W.nsIn K mainGlobals "any" = some none)
    (kbb : PySem.W.kitOne K (.type "bool") (.type "bool") = some true)
    (i1_Number : PySem.W.findIn K (.ref C_Number) "__class__" = some (some (.builtin "object.__class__")))
    (i2_Number : PySem.W.specialIn K (.builtin "object.__class__") "__get__" = some (some (.builtin "getset_descriptor.__get__")))
    (i3_Number : PySem.W.takesIn K (.builtin "object.__class__") = some true)
    (i4_Number : PySem.W.mroIn K C_Number (.type "object") = some true)
    (i1_Here : PySem.W.findIn K (.ref C_Here) "__class__" = some (some (.builtin "object.__class__")))
    (i2_Here : PySem.W.specialIn K (.builtin "object.__class__") "__get__" = some (some (.builtin "getset_descriptor.__get__")))
    (i3_Here : PySem.W.takesIn K (.builtin "object.__class__") = some true)
    (i4_Here : PySem.W.mroIn K C_Here (.type "object") = some true)
    (i1_Cell : PySem.W.findIn K (.ref C_Cell) "__class__" = some (some (.builtin "object.__class__")))
    (i2_Cell : PySem.W.specialIn K (.builtin "object.__class__") "__get__" = some (some (.builtin "getset_descriptor.__get__")))
    (i3_Cell : PySem.W.takesIn K (.builtin "object.__class__") = some true)
    (i4_Cell : PySem.W.mroIn K C_Cell (.type "object") = some true)
    (i1_Shifted : PySem.W.findIn K (.ref C_Shifted) "__class__" = some (some (.builtin "object.__class__")))
    (i2_Shifted : PySem.W.specialIn K (.builtin "object.__class__") "__get__" = some (some (.builtin "getset_descriptor.__get__")))
    (i3_Shifted : PySem.W.takesIn K (.builtin "object.__class__") = some true)
    (i4_Shifted : PySem.W.mroIn K C_Shifted (.type "object") = some true)
    (i1_Local : PySem.W.findIn K (.ref C_Local) "__class__" = some (some (.builtin "object.__class__")))
    (i2_Local : PySem.W.specialIn K (.builtin "object.__class__") "__get__" = some (some (.builtin "getset_descriptor.__get__")))
    (i3_Local : PySem.W.takesIn K (.builtin "object.__class__") = some true)
    (i4_Local : PySem.W.mroIn K C_Local (.type "object") = some true)
    (i1_At : PySem.W.findIn K (.ref C_At) "__class__" = some (some (.builtin "object.__class__")))
    (i2_At : PySem.W.specialIn K (.builtin "object.__class__") "__get__" = some (some (.builtin "getset_descriptor.__get__")))
    (i3_At : PySem.W.takesIn K (.builtin "object.__class__") = some true)
    (i4_At : PySem.W.mroIn K C_At (.type "object") = some true)
    (i1_Pair : PySem.W.findIn K (.ref C_Pair) "__class__" = some (some (.builtin "object.__class__")))
    (i2_Pair : PySem.W.specialIn K (.builtin "object.__class__") "__get__" = some (some (.builtin "getset_descriptor.__get__")))
    (i3_Pair : PySem.W.takesIn K (.builtin "object.__class__") = some true)
    (i4_Pair : PySem.W.mroIn K C_Pair (.type "object") = some true)
    (i1_Choice : PySem.W.findIn K (.ref C_Choice) "__class__" = some (some (.builtin "object.__class__")))
    (i2_Choice : PySem.W.specialIn K (.builtin "object.__class__") "__get__" = some (some (.builtin "getset_descriptor.__get__")))
    (i3_Choice : PySem.W.takesIn K (.builtin "object.__class__") = some true)
    (i4_Choice : PySem.W.mroIn K C_Choice (.type "object") = some true)
    (i1_Call : PySem.W.findIn K (.ref C_Call) "__class__" = some (some (.builtin "object.__class__")))
    (i2_Call : PySem.W.specialIn K (.builtin "object.__class__") "__get__" = some (some (.builtin "getset_descriptor.__get__")))
    (i3_Call : PySem.W.takesIn K (.builtin "object.__class__") = some true)
    (i4_Call : PySem.W.mroIn K C_Call (.type "object") = some true)
    (i1_Let : PySem.W.findIn K (.ref C_Let) "__class__" = some (some (.builtin "object.__class__")))
    (i2_Let : PySem.W.specialIn K (.builtin "object.__class__") "__get__" = some (some (.builtin "getset_descriptor.__get__")))
    (i3_Let : PySem.W.takesIn K (.builtin "object.__class__") = some true)
    (i4_Let : PySem.W.mroIn K C_Let (.type "object") = some true)
    (i1_Put : PySem.W.findIn K (.ref C_Put) "__class__" = some (some (.builtin "object.__class__")))
    (i2_Put : PySem.W.specialIn K (.builtin "object.__class__") "__get__" = some (some (.builtin "getset_descriptor.__get__")))
    (i3_Put : PySem.W.takesIn K (.builtin "object.__class__") = some true)
    (i4_Put : PySem.W.mroIn K C_Put (.type "object") = some true)
    (i1_Fold : PySem.W.findIn K (.ref C_Fold) "__class__" = some (some (.builtin "object.__class__")))
    (i2_Fold : PySem.W.specialIn K (.builtin "object.__class__") "__get__" = some (some (.builtin "getset_descriptor.__get__")))
    (i3_Fold : PySem.W.takesIn K (.builtin "object.__class__") = some true)
    (i4_Fold : PySem.W.mroIn K C_Fold (.type "object") = some true)
    (i1_Running : PySem.W.findIn K (.ref C_Running) "__class__" = some (some (.builtin "object.__class__")))
    (i2_Running : PySem.W.specialIn K (.builtin "object.__class__") "__get__" = some (some (.builtin "getset_descriptor.__get__")))
    (i3_Running : PySem.W.takesIn K (.builtin "object.__class__") = some true)
    (i4_Running : PySem.W.mroIn K C_Running (.type "object") = some true)
    (i1_Till : PySem.W.findIn K (.ref C_Till) "__class__" = some (some (.builtin "object.__class__")))
    (i2_Till : PySem.W.specialIn K (.builtin "object.__class__") "__get__" = some (some (.builtin "getset_descriptor.__get__")))
    (i3_Till : PySem.W.takesIn K (.builtin "object.__class__") = some true)
    (i4_Till : PySem.W.mroIn K C_Till (.type "object") = some true)
    (kt_Number_At : PySem.W.kitOne K (.ref C_Number) (.ref C_At) = some false)
    (kt_Number_Pair : PySem.W.kitOne K (.ref C_Number) (.ref C_Pair) = some false)
    (kt_Number_Choice : PySem.W.kitOne K (.ref C_Number) (.ref C_Choice) = some false)
    (kt_Number_Call : PySem.W.kitOne K (.ref C_Number) (.ref C_Call) = some false)
    (kt_Number_Cell : PySem.W.kitOne K (.ref C_Number) (.ref C_Cell) = some false)
    (kt_Number_Shifted : PySem.W.kitOne K (.ref C_Number) (.ref C_Shifted) = some false)
    (kt_Here_At : PySem.W.kitOne K (.ref C_Here) (.ref C_At) = some false)
    (kt_Here_Pair : PySem.W.kitOne K (.ref C_Here) (.ref C_Pair) = some false)
    (kt_Here_Choice : PySem.W.kitOne K (.ref C_Here) (.ref C_Choice) = some false)
    (kt_Here_Call : PySem.W.kitOne K (.ref C_Here) (.ref C_Call) = some false)
    (kt_Here_Cell : PySem.W.kitOne K (.ref C_Here) (.ref C_Cell) = some false)
    (kt_Here_Shifted : PySem.W.kitOne K (.ref C_Here) (.ref C_Shifted) = some false)
    (kt_Cell_At : PySem.W.kitOne K (.ref C_Cell) (.ref C_At) = some false)
    (kt_Cell_Pair : PySem.W.kitOne K (.ref C_Cell) (.ref C_Pair) = some false)
    (kt_Cell_Choice : PySem.W.kitOne K (.ref C_Cell) (.ref C_Choice) = some false)
    (kt_Cell_Call : PySem.W.kitOne K (.ref C_Cell) (.ref C_Call) = some false)
    (kt_Cell_Cell : PySem.W.kitOne K (.ref C_Cell) (.ref C_Cell) = some true)
    (kt_Cell_Shifted : PySem.W.kitOne K (.ref C_Cell) (.ref C_Shifted) = some false)
    (kt_Shifted_At : PySem.W.kitOne K (.ref C_Shifted) (.ref C_At) = some false)
    (kt_Shifted_Pair : PySem.W.kitOne K (.ref C_Shifted) (.ref C_Pair) = some false)
    (kt_Shifted_Choice : PySem.W.kitOne K (.ref C_Shifted) (.ref C_Choice) = some false)
    (kt_Shifted_Call : PySem.W.kitOne K (.ref C_Shifted) (.ref C_Call) = some false)
    (kt_Shifted_Cell : PySem.W.kitOne K (.ref C_Shifted) (.ref C_Cell) = some false)
    (kt_Shifted_Shifted : PySem.W.kitOne K (.ref C_Shifted) (.ref C_Shifted) = some true)
    (kt_Local_At : PySem.W.kitOne K (.ref C_Local) (.ref C_At) = some false)
    (kt_Local_Pair : PySem.W.kitOne K (.ref C_Local) (.ref C_Pair) = some false)
    (kt_Local_Choice : PySem.W.kitOne K (.ref C_Local) (.ref C_Choice) = some false)
    (kt_Local_Call : PySem.W.kitOne K (.ref C_Local) (.ref C_Call) = some false)
    (kt_Local_Cell : PySem.W.kitOne K (.ref C_Local) (.ref C_Cell) = some false)
    (kt_Local_Shifted : PySem.W.kitOne K (.ref C_Local) (.ref C_Shifted) = some false)
    (kt_At_At : PySem.W.kitOne K (.ref C_At) (.ref C_At) = some true)
    (kt_At_Pair : PySem.W.kitOne K (.ref C_At) (.ref C_Pair) = some false)
    (kt_At_Choice : PySem.W.kitOne K (.ref C_At) (.ref C_Choice) = some false)
    (kt_At_Call : PySem.W.kitOne K (.ref C_At) (.ref C_Call) = some false)
    (kt_At_Cell : PySem.W.kitOne K (.ref C_At) (.ref C_Cell) = some false)
    (kt_At_Shifted : PySem.W.kitOne K (.ref C_At) (.ref C_Shifted) = some false)
    (kt_Pair_At : PySem.W.kitOne K (.ref C_Pair) (.ref C_At) = some false)
    (kt_Pair_Pair : PySem.W.kitOne K (.ref C_Pair) (.ref C_Pair) = some true)
    (kt_Pair_Choice : PySem.W.kitOne K (.ref C_Pair) (.ref C_Choice) = some false)
    (kt_Pair_Call : PySem.W.kitOne K (.ref C_Pair) (.ref C_Call) = some false)
    (kt_Pair_Cell : PySem.W.kitOne K (.ref C_Pair) (.ref C_Cell) = some false)
    (kt_Pair_Shifted : PySem.W.kitOne K (.ref C_Pair) (.ref C_Shifted) = some false)
    (kt_Choice_At : PySem.W.kitOne K (.ref C_Choice) (.ref C_At) = some false)
    (kt_Choice_Pair : PySem.W.kitOne K (.ref C_Choice) (.ref C_Pair) = some false)
    (kt_Choice_Choice : PySem.W.kitOne K (.ref C_Choice) (.ref C_Choice) = some true)
    (kt_Choice_Call : PySem.W.kitOne K (.ref C_Choice) (.ref C_Call) = some false)
    (kt_Choice_Cell : PySem.W.kitOne K (.ref C_Choice) (.ref C_Cell) = some false)
    (kt_Choice_Shifted : PySem.W.kitOne K (.ref C_Choice) (.ref C_Shifted) = some false)
    (kt_Call_At : PySem.W.kitOne K (.ref C_Call) (.ref C_At) = some false)
    (kt_Call_Pair : PySem.W.kitOne K (.ref C_Call) (.ref C_Pair) = some false)
    (kt_Call_Choice : PySem.W.kitOne K (.ref C_Call) (.ref C_Choice) = some false)
    (kt_Call_Call : PySem.W.kitOne K (.ref C_Call) (.ref C_Call) = some true)
    (kt_Call_Cell : PySem.W.kitOne K (.ref C_Call) (.ref C_Cell) = some false)
    (kt_Call_Shifted : PySem.W.kitOne K (.ref C_Call) (.ref C_Shifted) = some false)
    (kt_Let_Till : PySem.W.kitOne K (.ref C_Let) (.ref C_Till) = some false)
    (kt_Let_Put : PySem.W.kitOne K (.ref C_Let) (.ref C_Put) = some false)
    (kt_Let_Fold : PySem.W.kitOne K (.ref C_Let) (.ref C_Fold) = some false)
    (kt_Put_Till : PySem.W.kitOne K (.ref C_Put) (.ref C_Till) = some false)
    (kt_Put_Put : PySem.W.kitOne K (.ref C_Put) (.ref C_Put) = some true)
    (kt_Put_Fold : PySem.W.kitOne K (.ref C_Put) (.ref C_Fold) = some false)
    (kt_Fold_Till : PySem.W.kitOne K (.ref C_Fold) (.ref C_Till) = some false)
    (kt_Fold_Put : PySem.W.kitOne K (.ref C_Fold) (.ref C_Put) = some false)
    (kt_Fold_Fold : PySem.W.kitOne K (.ref C_Fold) (.ref C_Fold) = some true)
    (kt_Running_Till : PySem.W.kitOne K (.ref C_Running) (.ref C_Till) = some false)
    (kt_Running_Put : PySem.W.kitOne K (.ref C_Running) (.ref C_Put) = some false)
    (kt_Running_Fold : PySem.W.kitOne K (.ref C_Running) (.ref C_Fold) = some false)
    (kt_Till_Till : PySem.W.kitOne K (.ref C_Till) (.ref C_Till) = some true)
    (kt_Till_Put : PySem.W.kitOne K (.ref C_Till) (.ref C_Put) = some false)
    (kt_Till_Fold : PySem.W.kitOne K (.ref C_Till) (.ref C_Fold) = some false)
    : ∃ fd : FuncData, (∀ (s : Shared) (v : Value), BindsTo s fd ⟨[v], []⟩ [("_law_script", v)]) ∧ ∀ base : Heap, K.In base → base.Ns mainGlobals mg → FnOk l.prog w K mg base CX0 7 fa fd ["_law_script"] (spLaw K) := by
  have e := hfa.symm.trans (PySem.W.mg_of X G a_law)
  cases e
  have d_parts_of : DefIn K mg "parts_of" s_parts_of ["form"] := defIn_mk X G a_parts_of l_y c_y k_y fun _ _ _ _ _ _ us hl => match us, hl with | [_], _ => rfl
  have d_forms_within : DefIn K mg "forms_within" s_forms_within ["form"] := defIn_mk X G a_forms_within l_j c_j k_j fun _ _ _ _ _ _ us hl => match us, hl with | [_], _ => rfl
  have d_forms_of : DefIn K mg "forms_of" s_forms_of ["step"] := defIn_mk X G a_forms_of l_i c_i k_i fun _ _ _ _ _ _ us hl => match us, hl with | [_], _ => rfl
  have d_is_uneven_form : DefIn K mg "is_uneven_form" s_is_uneven_form ["form", "lengths", "many"] := defIn_mk X G a_is_uneven_form l_l c_l k_l fun _ _ _ _ _ _ us hl => match us, hl with | [_, _, _], _ => rfl
  have d_uneven : DefIn K mg "uneven" s_uneven ["step", "lengths"] := defIn_mk X G a_uneven l_z c_z k_z fun _ _ _ _ _ _ us hl => match us, hl with | [_, _], _ => rfl
  have d_may_cross : DefIn K mg "may_cross" s_may_cross ["step", "part"] := defIn_mk X G a_may_cross l_x c_x k_x fun _ _ _ _ _ _ us hl => match us, hl with | [_, _], _ => rfl
  have d_is_crossed_form : DefIn K mg "is_crossed_form" s_is_crossed_form ["step", "form"] := defIn_mk X G a_is_crossed_form l_k c_k k_k fun _ _ _ _ _ _ us hl => match us, hl with | [_, _], _ => rfl
  have d_crossed : DefIn K mg "crossed" s_crossed ["step"] := defIn_mk X G a_crossed l_h c_h k_h fun _ _ _ _ _ _ us hl => match us, hl with | [_], _ => rfl
  have d_l_mixed : DefIn K mg "_law_mixed" s_l_mixed ["_law_cell", "_law_k"] := defIn_mk X G a_l_mixed l_r c_r k_r fun _ _ _ _ _ _ us hl => match us, hl with | [_, _], _ => rfl
  have d_l_cell_at : DefIn K mg "_law_cell_at" s_l_cell_at ["_law_script", "_law_k"] := defIn_mk X G a_l_cell_at l_n c_n k_n fun _ _ _ _ _ _ us hl => match us, hl with | [_, _], _ => rfl
  have d_l_lengths_by : DefIn K mg "_law_lengths_by" s_l_lengths_by ["_law_script"] := defIn_mk X G a_l_lengths_by l_q c_q k_q fun _ _ _ _ _ _ us hl => match us, hl with | [_], _ => rfl
  have d_l_row_by : DefIn K mg "_law_row_by" s_l_row_by ["_law_cell", "_law_lengths", "_law_target", "_law_fit"] := defIn_mk X G a_l_row_by l_u c_u k_u fun _ _ _ _ _ _ us hl => match us, hl with | [_, _, _, _], _ => rfl
  have d_l_leaf_by : DefIn K mg "_law_leaf_by" s_l_leaf_by ["_law_cell", "_law_lengths", "_law_target", "_law_fit"] := defIn_mk X G a_l_leaf_by l_p c_p k_p fun _ _ _ _ _ _ us hl => match us, hl with | [_, _, _, _], _ => rfl
  have d_l_pushed : DefIn K mg "_law_pushed" s_l_pushed ["_law_cell", "_law_pile", "_law_lengths", "_law_target", "_law_fit"] := defIn_mk X G a_l_pushed l_t c_t k_t fun _ _ _ _ _ _ us hl => match us, hl with | [_, _, _, _, _], _ => rfl
  have d_l_step_by : DefIn K mg "_law_step_by" s_l_step_by ["_law_kind", "_law_target", "_law_many", "_law_found", "_law_tested"] := defIn_mk X G a_l_step_by l_v c_v k_v fun _ _ _ _ _ _ us hl => match us, hl with | [_, _, _, _, _], _ => rfl
  have d_l_due : DefIn K mg "_law_due" s_l_due ["_law_kind", "_law_target", "_law_many", "_law_lengths", "_law_named"] := defIn_mk X G a_l_due l_o c_o k_o fun _ _ _ _ _ _ us hl => match us, hl with | [_, _, _, _, _], _ => rfl
  have d_l_asked : DefIn K mg "_law_asked" s_l_asked ["_law_step", "_law_lengths", "_law_due_here", "_law_first"] := defIn_mk X G a_l_asked l_m c_m k_m fun _ _ _ _ _ _ us hl => match us, hl with | [_, _, _, _], _ => rfl
  have d_l_one : DefIn K mg "_law_one" s_l_one ["_law_row", "_law_lengths"] := defIn_mk X G a_l_one l_s c_s k_s fun _ _ _ _ _ _ us hl => match us, hl with | [_, _], _ => rfl
  have d_Number_init : InitIn K C_Number "Number.__init__" s_Number_init ["self", "number"] := ⟨f_9, _, ⟨mk_C_Number, at_9, fn_9, kC_C_Number⟩, fun_mk l_9 c_9 k_9, (fun_mk l_9 c_9 k_9).binds fun _ _ _ _ _ _ us hl => match us, hl with | [_, _], _ => rfl⟩
  have d_Cell_init : InitIn K C_Cell "Cell.__init__" s_Cell_init ["self", "row"] := ⟨f_2, _, ⟨mk_C_Cell, at_2, fn_2, kC_C_Cell⟩, fun_mk l_2 c_2 k_2, (fun_mk l_2 c_2 k_2).binds fun _ _ _ _ _ _ us hl => match us, hl with | [_, _], _ => rfl⟩
  have d_Shifted_init : InitIn K C_Shifted "Shifted.__init__" s_Shifted_init ["self", "row", "by", "other"] := ⟨f_f, _, ⟨mk_C_Shifted, at_f, fn_f, kC_C_Shifted⟩, fun_mk l_f c_f k_f, (fun_mk l_f c_f k_f).binds fun _ _ _ _ _ _ us hl => match us, hl with | [_, _, _, _], _ => rfl⟩
  have d_Local_init : InitIn K C_Local "Local.__init__" s_Local_init ["self", "at"] := ⟨f_8, _, ⟨mk_C_Local, at_8, fn_8, kC_C_Local⟩, fun_mk l_8 c_8 k_8, (fun_mk l_8 c_8 k_8).binds fun _ _ _ _ _ _ us hl => match us, hl with | [_, _], _ => rfl⟩
  have d_At_init : InitIn K C_At "At.__init__" s_At_init ["self", "row", "place"] := ⟨f_0, _, ⟨mk_C_At, at_0, fn_0, kC_C_At⟩, fun_mk l_0 c_0 k_0, (fun_mk l_0 c_0 k_0).binds fun _ _ _ _ _ _ us hl => match us, hl with | [_, _, _], _ => rfl⟩
  have d_Pair_init : InitIn K C_Pair "Pair.__init__" s_Pair_init ["self", "sign", "left", "right"] := ⟨f_a, _, ⟨mk_C_Pair, at_a, fn_a, kC_C_Pair⟩, fun_mk l_a c_a k_a, (fun_mk l_a c_a k_a).binds fun _ _ _ _ _ _ us hl => match us, hl with | [_, _, _, _], _ => rfl⟩
  have d_Choice_init : InitIn K C_Choice "Choice.__init__" s_Choice_init ["self", "test", "left", "right"] := ⟨f_3, _, ⟨mk_C_Choice, at_3, fn_3, kC_C_Choice⟩, fun_mk l_3 c_3 k_3, (fun_mk l_3 c_3 k_3).binds fun _ _ _ _ _ _ us hl => match us, hl with | [_, _, _, _], _ => rfl⟩
  have d_Call_init : InitIn K C_Call "Call.__init__" s_Call_init ["self", "at", "handed"] := ⟨f_1, _, ⟨mk_C_Call, at_1, fn_1, kC_C_Call⟩, fun_mk l_1 c_1 k_1, (fun_mk l_1 c_1 k_1).binds fun _ _ _ _ _ _ us hl => match us, hl with | [_, _, _], _ => rfl⟩
  have d_Let_init : InitN K C_Let "Let.__init__" s_Let_init ["self", "target", "value", "test"] := ⟨f_6, _, ⟨mk_C_Let, at_6, fn_6, kC_C_Let⟩, (funD_mk l_6 c_6 k_6 lT_6), (funD_mk l_6 c_6 k_6 lT_6).binds (fun _ _ _ _ _ _ _ us hl => match us, hl with | [_, _, _, _], _ => ⟨_, rfl, rfl⟩), (funD_mk l_6 c_6 k_6 lT_6).binds (fun _ _ _ _ _ _ _ us hl => (match us, (by simpa using hl : us.length = 3) with | [_, _, _], _ => ⟨_, rfl, rfl⟩))⟩
  have d_Let_many_of : MethIn K C_Let "many_of" "Let.many_of" s_Let_many_of ["self", "lengths"] := ⟨f_7, _, ⟨at_7, fn_7, k_7⟩, fun_mk l_7 c_7 k_7, (fun_mk l_7 c_7 k_7).binds fun _ _ _ _ _ _ us hl => match us, hl with | [_, _], _ => rfl⟩
  have d_Put_init : InitN K C_Put "Put.__init__" s_Put_init ["self", "target", "value", "place", "many", "test"] := ⟨f_b, _, ⟨mk_C_Put, at_b, fn_b, kC_C_Put⟩, (funD_mk l_b c_b k_b lT_b), (funD_mk l_b c_b k_b lT_b).binds (fun _ _ _ _ _ _ _ us hl => match us, hl with | [_, _, _, _, _, _], _ => ⟨_, rfl, rfl⟩), (funD_mk l_b c_b k_b lT_b).binds (fun _ _ _ _ _ _ _ us hl => (match us, (by simpa using hl : us.length = 5) with | [_, _, _, _, _], _ => ⟨_, rfl, rfl⟩))⟩
  have d_Put_many_of : MethIn K C_Put "many_of" "Put.many_of" s_Put_many_of ["self", "lengths"] := ⟨f_c, _, ⟨at_c, fn_c, k_c⟩, fun_mk l_c c_c k_c, (fun_mk l_c c_c k_c).binds fun _ _ _ _ _ _ us hl => match us, hl with | [_, _], _ => rfl⟩
  have d_Fold_init : InitN K C_Fold "Fold.__init__" s_Fold_init ["self", "target", "fold", "value", "many", "test"] := ⟨f_4, _, ⟨mk_C_Fold, at_4, fn_4, kC_C_Fold⟩, (funD_mk l_4 c_4 k_4 lT_4), (funD_mk l_4 c_4 k_4 lT_4).binds (fun _ _ _ _ _ _ _ us hl => match us, hl with | [_, _, _, _, _, _], _ => ⟨_, rfl, rfl⟩), (funD_mk l_4 c_4 k_4 lT_4).binds (fun _ _ _ _ _ _ _ us hl => (match us, (by simpa using hl : us.length = 5) with | [_, _, _, _, _], _ => ⟨_, rfl, rfl⟩))⟩
  have d_Fold_many_of : MethIn K C_Fold "many_of" "Fold.many_of" s_Fold_many_of ["self", "lengths"] := ⟨f_5, _, ⟨at_5, fn_5, k_5⟩, fun_mk l_5 c_5 k_5, (fun_mk l_5 c_5 k_5).binds fun _ _ _ _ _ _ us hl => match us, hl with | [_, _], _ => rfl⟩
  have d_Running_init : InitN K C_Running "Running.__init__" s_Running_init ["self", "target", "fold", "value", "test"] := ⟨f_d, _, ⟨mk_C_Running, at_d, fn_d, kC_C_Running⟩, (funD_mk l_d c_d k_d lT_d), (funD_mk l_d c_d k_d lT_d).binds (fun _ _ _ _ _ _ _ us hl => match us, hl with | [_, _, _, _, _], _ => ⟨_, rfl, rfl⟩), (funD_mk l_d c_d k_d lT_d).binds (fun _ _ _ _ _ _ _ us hl => (match us, (by simpa using hl : us.length = 4) with | [_, _, _, _], _ => ⟨_, rfl, rfl⟩))⟩
  have d_Running_many_of : MethIn K C_Running "many_of" "Running.many_of" s_Running_many_of ["self", "lengths"] := ⟨f_e, _, ⟨at_e, fn_e, k_e⟩, fun_mk l_e c_e k_e, (fun_mk l_e c_e k_e).binds fun _ _ _ _ _ _ us hl => match us, hl with | [_, _], _ => rfl⟩
  have d_Till_init : InitIn K C_Till "Till.__init__" s_Till_init ["self", "target", "most", "steps"] := ⟨f_g, _, ⟨mk_C_Till, at_g, fn_g, kC_C_Till⟩, fun_mk l_g c_g k_g, (fun_mk l_g c_g k_g).binds fun _ _ _ _ _ _ us hl => match us, hl with | [_, _, _, _], _ => rfl⟩
  have cl_Number : Cls K C_Number := ⟨c1_C_Number, c2_C_Number, c3_C_Number, c4_C_Number⟩
  have cl_Here : Cls K C_Here := ⟨c1_C_Here, c2_C_Here, c3_C_Here, c4_C_Here⟩
  have cl_Cell : Cls K C_Cell := ⟨c1_C_Cell, c2_C_Cell, c3_C_Cell, c4_C_Cell⟩
  have cl_Shifted : Cls K C_Shifted := ⟨c1_C_Shifted, c2_C_Shifted, c3_C_Shifted, c4_C_Shifted⟩
  have cl_Local : Cls K C_Local := ⟨c1_C_Local, c2_C_Local, c3_C_Local, c4_C_Local⟩
  have cl_At : Cls K C_At := ⟨c1_C_At, c2_C_At, c3_C_At, c4_C_At⟩
  have cl_Pair : Cls K C_Pair := ⟨c1_C_Pair, c2_C_Pair, c3_C_Pair, c4_C_Pair⟩
  have cl_Choice : Cls K C_Choice := ⟨c1_C_Choice, c2_C_Choice, c3_C_Choice, c4_C_Choice⟩
  have cl_Call : Cls K C_Call := ⟨c1_C_Call, c2_C_Call, c3_C_Call, c4_C_Call⟩
  have cl_Let : Cls K C_Let := ⟨c1_C_Let, c2_C_Let, c3_C_Let, c4_C_Let⟩
  have cl_Put : Cls K C_Put := ⟨c1_C_Put, c2_C_Put, c3_C_Put, c4_C_Put⟩
  have cl_Fold : Cls K C_Fold := ⟨c1_C_Fold, c2_C_Fold, c3_C_Fold, c4_C_Fold⟩
  have cl_Running : Cls K C_Running := ⟨c1_C_Running, c2_C_Running, c3_C_Running, c4_C_Running⟩
  have cl_Till : Cls K C_Till := ⟨c1_C_Till, c2_C_Till, c3_C_Till, c4_C_Till⟩
  have mm := fun {x : Str} {v : Value} (q : PySem.W.nsIn K mainGlobals x = some (some v)) => PySem.W.mg_of X G q
  have mz := fun {x : Str} (q : PySem.W.nsIn K mainGlobals x = some none) => PySem.W.mg_none_of X G q
  refine ⟨PySem.W.fnOf "law" "law" (defArgs s_law) (defBody s_law) (defScope s_law) .none kV_w dc_w pm_w an_w cd_w ct_w, fun s v => .of_eq rfl, fun base kb nb => ?_⟩
  let c : F2.Cs := ⟨⟨C_Number, C_Here, C_Cell, C_Shifted, C_Local, C_At, C_Pair, C_Choice, 0⟩, C_Call⟩
  let q : ST.Scs := ⟨C_Let, C_Put, C_Fold, C_Running, C_Till, 0⟩
  have L : LooksK K c := ⟨⟨cl_Number, i1_Number, i2_Number, i3_Number, i4_Number, kt_Number_At, kt_Number_Pair, kt_Number_Choice, kt_Number_Call⟩, ⟨cl_Here, i1_Here, i2_Here, i3_Here, i4_Here, kt_Here_At, kt_Here_Pair, kt_Here_Choice, kt_Here_Call⟩, ⟨cl_Cell, i1_Cell, i2_Cell, i3_Cell, i4_Cell, kt_Cell_At, kt_Cell_Pair, kt_Cell_Choice, kt_Cell_Call⟩, ⟨cl_Shifted, i1_Shifted, i2_Shifted, i3_Shifted, i4_Shifted, kt_Shifted_At, kt_Shifted_Pair, kt_Shifted_Choice, kt_Shifted_Call⟩, ⟨cl_Local, i1_Local, i2_Local, i3_Local, i4_Local, kt_Local_At, kt_Local_Pair, kt_Local_Choice, kt_Local_Call⟩, ⟨cl_At, i1_At, i2_At, i3_At, i4_At, kt_At_At, kt_At_Pair, kt_At_Choice, kt_At_Call⟩, ⟨cl_Pair, i1_Pair, i2_Pair, i3_Pair, i4_Pair, kt_Pair_At, kt_Pair_Pair, kt_Pair_Choice, kt_Pair_Call⟩, ⟨cl_Choice, i1_Choice, i2_Choice, i3_Choice, i4_Choice, kt_Choice_At, kt_Choice_Pair, kt_Choice_Choice, kt_Choice_Call⟩, ⟨cl_Call, i1_Call, i2_Call, i3_Call, i4_Call, kt_Call_At, kt_Call_Pair, kt_Call_Choice, kt_Call_Call⟩, n_C_At_place, n_C_Pair_left, n_C_Pair_right, n_C_Choice_test, n_C_Choice_left, n_C_Choice_right, n_C_Call_handed, n_C_Call_at⟩
  have LS : LooksS K mg c q := ⟨(fun k => match k with | .let' => ⟨⟨cl_Let, i1_Let, i2_Let, i3_Let, i4_Let⟩, kt_Let_Till, kt_Let_Put, kt_Let_Fold⟩ | .put _ _ => ⟨⟨cl_Put, i1_Put, i2_Put, i3_Put, i4_Put⟩, kt_Put_Till, kt_Put_Put, kt_Put_Fold⟩ | .fold _ _ => ⟨⟨cl_Fold, i1_Fold, i2_Fold, i3_Fold, i4_Fold⟩, kt_Fold_Till, kt_Fold_Put, kt_Fold_Fold⟩ | .run _ => ⟨⟨cl_Running, i1_Running, i2_Running, i3_Running, i4_Running⟩, kt_Running_Till, kt_Running_Put, kt_Running_Fold⟩), ⟨⟨cl_Till, i1_Till, i2_Till, i3_Till, i4_Till⟩, kt_Till_Till, kt_Till_Put, kt_Till_Fold⟩, (fun k => match k with | .let' => n_C_Let_value | .put _ _ => n_C_Put_value | .fold _ _ => n_C_Fold_value | .run _ => n_C_Running_value), (fun k => match k with | .let' => n_C_Let_test | .put _ _ => n_C_Put_test | .fold _ _ => n_C_Fold_test | .run _ => n_C_Running_test), (fun k => match k with | .let' => n_C_Let_target | .put _ _ => n_C_Put_target | .fold _ _ => n_C_Fold_target | .run _ => n_C_Running_target), n_C_Put_place, (fun F => match F with | .num _ => ⟨⟨cl_Number, i1_Number, i2_Number, i3_Number, i4_Number⟩, kt_Number_Cell, kt_Number_Shifted, kt_Number_At⟩ | .here => ⟨⟨cl_Here, i1_Here, i2_Here, i3_Here, i4_Here⟩, kt_Here_Cell, kt_Here_Shifted, kt_Here_At⟩ | .cell _ => ⟨⟨cl_Cell, i1_Cell, i2_Cell, i3_Cell, i4_Cell⟩, kt_Cell_Cell, kt_Cell_Shifted, kt_Cell_At⟩ | .shi _ _ _ => ⟨⟨cl_Shifted, i1_Shifted, i2_Shifted, i3_Shifted, i4_Shifted⟩, kt_Shifted_Cell, kt_Shifted_Shifted, kt_Shifted_At⟩ | .loc _ => ⟨⟨cl_Local, i1_Local, i2_Local, i3_Local, i4_Local⟩, kt_Local_Cell, kt_Local_Shifted, kt_Local_At⟩ | .at' _ _ => ⟨⟨cl_At, i1_At, i2_At, i3_At, i4_At⟩, kt_At_Cell, kt_At_Shifted, kt_At_At⟩ | .pair _ _ _ => ⟨⟨cl_Pair, i1_Pair, i2_Pair, i3_Pair, i4_Pair⟩, kt_Pair_Cell, kt_Pair_Shifted, kt_Pair_At⟩ | .cho _ _ _ => ⟨⟨cl_Choice, i1_Choice, i2_Choice, i3_Choice, i4_Choice⟩, kt_Choice_Cell, kt_Choice_Shifted, kt_Choice_At⟩ | .call _ _ => ⟨⟨cl_Call, i1_Call, i2_Call, i3_Call, i4_Call⟩, kt_Call_Cell, kt_Call_Shifted, kt_Call_At⟩)
    , n_C_Cell_row, n_C_Shifted_row, n_C_At_row, mm a_C_At, mm a_C_Cell, mm a_C_Shifted, mm a_C_Put, mm a_C_Fold, mm a_C_Till⟩
  have IN := okI_Number (P := l.prog) (w := w) (mg := mg) (base := base) d_Number_init cl_Number n_C_Number_number
  have IC := okI_Cell (P := l.prog) (w := w) (mg := mg) (base := base) d_Cell_init cl_Cell n_C_Cell_row
  have IH := okI_Shifted (P := l.prog) (w := w) (mg := mg) (base := base) d_Shifted_init cl_Shifted n_C_Shifted_row n_C_Shifted_by n_C_Shifted_other
  have IL := okI_Local (P := l.prog) (w := w) (mg := mg) (base := base) d_Local_init cl_Local n_C_Local_at
  have IA := okI_At (P := l.prog) (w := w) (mg := mg) (base := base) d_At_init cl_At n_C_At_row n_C_At_place
  have IP := okI_Pair (P := l.prog) (w := w) (mg := mg) (base := base) d_Pair_init cl_Pair n_C_Pair_sign n_C_Pair_left n_C_Pair_right
  have IO := okI_Choice (P := l.prog) (w := w) (mg := mg) (base := base) d_Choice_init cl_Choice n_C_Choice_test n_C_Choice_left n_C_Choice_right
  have ICa := okI_Call (P := l.prog) (w := w) (mg := mg) (base := base) d_Call_init (mz z_list) cl_Call n_C_Call_at n_C_Call_handed
  have IT := okI_Till (P := l.prog) (w := w) (mg := mg) (base := base) d_Till_init (mz z_list) cl_Till n_C_Till_target n_C_Till_most n_C_Till_steps
  have I1 := okN_Let (P := l.prog) (w := w) (mg := mg) (base := base) d_Let_init cl_Let n_C_Let_target n_C_Let_value n_C_Let_test
  have I2 := okN_Put (P := l.prog) (w := w) (mg := mg) (base := base) d_Put_init cl_Put n_C_Put_target n_C_Put_value n_C_Put_place n_C_Put_many n_C_Put_test
  have I3 := okN_Fold (P := l.prog) (w := w) (mg := mg) (base := base) d_Fold_init cl_Fold n_C_Fold_target n_C_Fold_fold n_C_Fold_value n_C_Fold_many n_C_Fold_test
  have I4 := okN_Running (P := l.prog) (w := w) (mg := mg) (base := base) d_Running_init cl_Running n_C_Running_target n_C_Running_fold n_C_Running_value n_C_Running_test
  have MH : MkN K C_Here := ⟨mk_C_Here, in_C_Here, kC_C_Here⟩
  have MO : ManyK l.prog w K mg base q := fun kd => match kd with
    | .let' => many_Let (q := q) d_Let_many_of cl_Let n_C_Let_target
    | .put pf mm => many_Put (q := q) d_Put_many_of cl_Put n_C_Put_many pf mm
    | .fold ff mm => many_Fold (q := q) d_Fold_many_of cl_Fold n_C_Fold_many ff mm
    | .run ff => many_Running (q := q) d_Running_many_of cl_Running n_C_Running_target ff
  have PO := ok_parts (P := l.prog) (w := w) (base := base) (c := c) d_parts_of (mz z_isinstance) (mz z_list) (mm a_C_At) (mm a_C_Pair) (mm a_C_Choice) (mm a_C_Call) L
  have WI := ok_within (c := c) d_forms_within (mz z_len) PO
  have FO := ok_formsOf (P := l.prog) (w := w) (base := base) (c := c) (q := q) d_forms_of (mz z_isinstance) LS
  have UF := ok_uf (c := c) (q := q) d_is_uneven_form (mz z_isinstance) LS WI
  have UN := ok_uneven (c := c) (q := q) d_uneven (mz z_isinstance) (mz z_any) LS FO MO UF
  have MC := ok_mc (P := l.prog) (w := w) (base := base) (c := c) (q := q) d_may_cross (mz z_isinstance) LS
  have XF := ok_xf (c := c) (q := q) d_is_crossed_form LS WI MC
  have CR := fun n => ok_crossed (c := c) (q := q) (n := n) d_crossed (mz z_isinstance) (mz z_any) LS FO XF
  have MX := ok_mixed (P := l.prog) (w := w) (base := base) d_l_mixed
  have CA := ok_cellAt (P := l.prog) (w := w) (base := base) d_l_cell_at (mz z_len)
  have LB := ok_lengths (P := l.prog) (w := w) (base := base) d_l_lengths_by (mz z_range) CA MX
  have RB := ok_rowBy (P := l.prog) (w := w) (base := base) d_l_row_by (mz z_len) (mz z_range)
  have LE := ok_leaf (c := c) d_l_leaf_by RB MH (mm a_C_Here) (mm a_C_Number) (mm a_C_Local) (mm a_C_Cell) (mm a_C_Shifted) IN IL IC IH
  have PU := ok_pushed (c := c) d_l_pushed (mz z_len) LE RB MH (mm a_C_Here) (mm a_C_At) (mm a_C_Pair) (mm a_C_Choice) (mm a_C_Call) IA IP IO ICa
  have SB := ok_stepBy (c := c) (q := q) d_l_step_by (mm a_C_Let) (mm a_C_Put) (mm a_C_Fold) (mm a_C_Running) I1 I2 I3 I4
  have DU := ok_due (P := l.prog) (w := w) (base := base) d_l_due
  have AS := ok_asked (c := c) (q := q) d_l_asked (mz z_isinstance) (mz z_list) (mz z_bool) kbb UN CR
  have ON := ok_one (c := c) (q := q) d_l_one (mz z_len) (mz z_range) (mz z_min) MH (mm a_C_Here) (mm a_C_Number) (mm a_C_Till) IN IT PU SB DU AS
  exact ok_law (fun_mk (st := s_law) l_w c_w k_w) (mz z_len) (mz z_range) (mz z_min) (mz z_max) LB ON
theorem walk {l : PySem.W.OpenLaw} {q : Program} {loose : List Str} {XP : (Str → Option Value) → Heap → Prop} {YP : World → Heap → Prop} {d : DefRec} {K : Params → PySem.W.Frag} (hn : l.most = some 63) (hdf : d.params.defaults = [])
    (hY : ∀ (w : World) (h : Heap), YP w h → (K w.params).In h)
    (F : ∀ (w : World) (mg : Str → Option Value) (fa : Addr) (h : Heap), (K w.params).In h → h.Ns mainGlobals mg → mg d.name = some (.ref fa) →
      ∃ fd : FuncData, (∀ (s : Shared) (u : Value), BindsTo s fd ⟨[u], []⟩ [("_law_script", u)]) ∧ ∀ base : Heap, (K w.params).In base → base.Ns mainGlobals mg → FnOk l.prog w (K w.params) mg base CX0 7 fa fd ["_law_script"] (spLaw (K w.params))) :
    PySem.W.WalkO q loose XP YP l.row.toRowW d [] (fun f vs => PySem.call f vs) :=
  L2.walk_of (n := 63) (k := 7) (x := "_law_script") (CX := fun _ => CX0) (sp := fun w => spLaw (K w.params)) hn (by decide) hdf ⟨rfl, by decide, by decide⟩ hY F (fun _ _ a ns hl _ hS => ⟨a, ns, rfl, hS, hl, fun _ => rfl⟩) fun _ _ _ _ _ z => z
end K20
open PySem PySem.W PyProof.Rows
set_option maxRecDepth 100000 in
set_option maxHeartbeats 0 in
theorem PySem.Challenge.cw_rowbreadth_k20_uneven_and_crossed_holds : PySem.Challenge.rw_rowbreadth_k20_uneven_and_crossed.Holds := by
  w_on; o_law; k_head; (case hw => w_witness2)
  k_fill
  refine K20.walk (l := PySem.Challenge.rw_rowbreadth_k20_uneven_and_crossed) rfl rfl (fun w h Y => PySem.W.kIn_of Y) ?F
  case F =>
    intro w mg fa h KX G hmg
    refine' K20.all_mk KX G hmg ?q0 ?q1 ?q2 ?q3 ?q4 ?q5 ?q6 ?q7 ?q8 ?q9 ?qa ?qb ?qc ?qd ?qe ?qf ?qg ?qh ?qi ?qj ?qk ?ql ?qm ?qn ?qo ?qp ?qq ?qr ?qs ?qt ?qu ?qv ?qw ?qx ?qy ?qz ?q10 ?q11 ?q12 ?q13 ?q14 ?q15 ?q16 ?q17 ?q18 ?q19 ?q1a ?q1b ?q1c ?q1d ?q1e ?q1f ?q1g ?q1h ?q1i ?q1j ?q1k ?q1l ?q1m ?q1n ?q1o ?q1p ?q1q ?q1r ?q1s ?q1t ?q1u ?q1v ?q1w ?q1x ?q1y ?q1z ?q20 ?q21 ?q22 ?q23 ?q24 ?q25 ?q26 ?q27 ?q28 ?q29 ?q2a ?q2b ?q2c ?q2d ?q2e ?q2f ?q2g ?q2h ?q2i ?q2j ?q2k ?q2l ?q2m ?q2n ?q2o ?q2p ?q2q ?q2r ?q2s ?q2t ?q2u ?q2v ?q2w ?q2x ?q2y ?q2z ?q30 ?q31 ?q32 ?q33 ?q34 ?q35 ?q36 ?q37 ?q38 ?q39 ?q3a ?q3b ?q3c ?q3d ?q3e ?q3f ?q3g ?q3h ?q3i ?q3j ?q3k ?q3l ?q3m ?q3n ?q3o ?q3p ?q3q ?q3r ?q3s ?q3t ?q3u ?q3v ?q3w ?q3x ?q3y ?q3z ?q40 ?q41 ?q42 ?q43 ?q44 ?q45 ?q46 ?q47 ?q48 ?q49 ?q4a ?q4b ?q4c ?q4d ?q4e ?q4f ?q4g ?q4h ?q4i ?q4j ?q4k ?q4l ?q4m ?q4n ?q4o ?q4p ?q4q ?q4r ?q4s ?q4t ?q4u ?q4v ?q4w ?q4x ?q4y ?q4z ?q50 ?q51 ?q52 ?q53 ?q54 ?q55 ?q56 ?q57 ?q58 ?q59 ?q5a ?q5b ?q5c ?q5d ?q5e ?q5f ?q5g ?q5h ?q5i ?q5j ?q5k ?q5l ?q5m ?q5n ?q5o ?q5p ?q5q ?q5r ?q5s ?q5t ?q5u ?q5v ?q5w ?q5x ?q5y ?q5z ?q60 ?q61 ?q62 ?q63 ?q64 ?q65 ?q66 ?q67 ?q68 ?q69 ?q6a ?q6b ?q6c ?q6d ?q6e ?q6f ?q6g ?q6h ?q6i ?q6j ?q6k ?q6l ?q6m ?q6n ?q6o ?q6p ?q6q ?q6r ?q6s ?q6t ?q6u ?q6v ?q6w ?q6x ?q6y ?q6z ?q70 ?q71 ?q72 ?q73 ?q74 ?q75 ?q76 ?q77 ?q78 ?q79 ?q7a ?q7b ?q7c ?q7d ?q7e ?q7f ?q7g ?q7h ?q7i ?q7j ?q7k ?q7l ?q7m ?q7n ?q7o ?q7p ?q7q ?q7r ?q7s ?q7t ?q7u ?q7v ?q7w ?q7x ?q7y ?q7z ?q80 ?q81 ?q82 ?q83 ?q84 ?q85 ?q86 ?q87 ?q88 ?q89 ?q8a ?q8b ?q8c ?q8d ?q8e ?q8f ?q8g ?q8h ?q8i ?q8j ?q8k ?q8l ?q8m ?q8n ?q8o ?q8p ?q8q ?q8r ?q8s ?q8t ?q8u ?q8v ?q8w ?q8x ?q8y ?q8z ?q90 ?q91 ?q92 ?q93 ?q94 ?q95 ?q96 ?q97 ?q98 ?q99 ?q9a ?q9b ?q9c ?q9d ?q9e ?q9f ?q9g ?q9h ?q9i ?q9j ?q9k ?q9l ?q9m ?q9n ?q9o ?q9p ?q9q ?q9r ?q9s ?q9t ?q9u ?q9v ?q9w ?q9x ?q9y ?q9z ?qa0 ?qa1 ?qa2 ?qa3 ?qa4 ?qa5 ?qa6 ?qa7 ?qa8 ?qa9 ?qaa ?qab ?qac ?qad ?qae ?qaf ?qag ?qah ?qai ?qaj ?qak ?qal ?qam ?qan ?qao ?qap ?qaq ?qar ?qas ?qat ?qau ?qav ?qaw ?qax ?qay ?qaz ?qb0 ?qb1 ?qb2 ?qb3 ?qb4 ?qb5 ?qb6 ?qb7 ?qb8 ?qb9 ?qba ?qbb ?qbc ?qbd ?qbe ?qbf ?qbg ?qbh ?qbi ?qbj ?qbk ?qbl ?qbm ?qbn ?qbo ?qbp ?qbq ?qbr ?qbs ?qbt ?qbu ?qbv ?qbw ?qbx ?qby ?qbz ?qc0 ?qc1
    (case q0 | q1 | q2 | q3 | q4 | q5 | q6 | q7 | q8 | q9 | qa | qb | qc | qd | qe | qf | qg | qh | qi | qj | qk | ql | qm | qn | qo | qp | qq | qr | qs | qt | qu | qv | qw | qx | qy | qz | q10 | q11 | q12 | q13 => k_is)
    (case q14 | q15 | q16 | q17 | q18 | q19 | q1a | q1b | q1c | q1d | q1e | q1f | q1g | q1h | q1i | q1j | q1k | q1l | q1m | q1n | q1o | q1p | q1q | q1r | q1s | q1t | q1u | q1v | q1w | q1x | q1y | q1z | q20 | q21 | q22 | q23 | q24 | q25 | q26 | q27 => k_is)
    (case q28 | q29 | q2a | q2b | q2c | q2d | q2e | q2f | q2g | q2h | q2i | q2j | q2k | q2l | q2m | q2n | q2o | q2p | q2q | q2r | q2s | q2t | q2u | q2v | q2w | q2x | q2y | q2z | q30 | q31 | q32 | q33 | q34 | q35 | q36 | q37 | q38 | q39 | q3a | q3b => k_is)
    (case q3c | q3d | q3e | q3f | q3g | q3h | q3i | q3j | q3k | q3l | q3m | q3n | q3o | q3p | q3q | q3r | q3s | q3t | q3u | q3v | q3w | q3x | q3y | q3z | q40 | q41 | q42 | q43 | q44 | q45 | q46 | q47 | q48 | q49 | q4a | q4b | q4c | q4d | q4e | q4f => k_is)
    (case q4g | q4h | q4i | q4j | q4k | q4l | q4m | q4n | q4o | q4p | q4q | q4r | q4s | q4t | q4u | q4v | q4w | q4x | q4y | q4z | q50 | q51 | q52 | q53 | q54 | q55 | q56 | q57 | q58 | q59 | q5a | q5b | q5c | q5d | q5e | q5f | q5g | q5h | q5i | q5j => k_is)
    (case q5k | q5l | q5m | q5n | q5o | q5p | q5q | q5r | q5s | q5t | q5u | q5v | q5w | q5x | q5y | q5z | q60 | q61 | q62 | q63 | q64 | q65 | q66 | q67 | q68 | q69 | q6a | q6b | q6c | q6d | q6e | q6f | q6g | q6h | q6i | q6j | q6k | q6l | q6m | q6n => k_is)
    (case q6o | q6p | q6q | q6r | q6s | q6t | q6u | q6v | q6w | q6x | q6y | q6z | q70 | q71 | q72 | q73 | q74 | q75 | q76 | q77 | q78 | q79 | q7a | q7b | q7c | q7d | q7e | q7f | q7g | q7h | q7i | q7j | q7k | q7l | q7m | q7n | q7o | q7p | q7q | q7r => k_is)
    (case q7s | q7t | q7u | q7v | q7w | q7x | q7y | q7z | q80 | q81 | q82 | q83 | q84 | q85 | q86 | q87 | q88 | q89 | q8a | q8b | q8c | q8d | q8e | q8f | q8g | q8h | q8i | q8j => k_is)
    (case q8k => kit_is)
    (case q8l | q8m | q8n | q8o | q8p | q8q | q8r | q8s | q8t | q8u | q8v | q8w | q8x | q8y | q8z | q90 | q91 | q92 | q93 | q94 | q95 | q96 | q97 | q98 | q99 | q9a | q9b | q9c | q9d | q9e | q9f | q9g | q9h | q9i | q9j | q9k | q9l | q9m | q9n | q9o => k_is)
    (case q9p | q9q | q9r | q9s | q9t | q9u | q9v | q9w | q9x | q9y | q9z | qa0 | qa1 | qa2 | qa3 | qa4 => k_is)
    (case qa5 | qa6 | qa7 | qa8 | qa9 | qaa | qab | qac | qad | qae | qaf | qag | qah | qai | qaj | qak | qal | qam | qan | qao | qap | qaq | qar | qas | qat | qau | qav | qaw | qax | qay | qaz | qb0 | qb1 | qb2 | qb3 | qb4 | qb5 | qb6 | qb7 | qb8 => kit_is)
    (case qb9 | qba | qbb | qbc | qbd | qbe | qbf | qbg | qbh | qbi | qbj | qbk | qbl | qbm | qbn | qbo | qbp | qbq | qbr | qbs | qbt | qbu | qbv | qbw | qbx | qby | qbz | qc0 | qc1 => kit_is)
