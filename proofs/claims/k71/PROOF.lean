import PyProof.Rows.All
import Wide.All
import OpenK.AllK
import Wide.FinOn
import HandS.Iter
import HandS.Comp
import HandS.Text
import HandS.Codes
import HandS.Call
import HandS.Walk
import PyProof.EnumMake
import KE.GoesMore
import KE.GoesEnum
import KE.GoesNew
import KE.KDictZip
import HandS.Dict
import HandS.List
import HandS.Words
import HandS.Replace
import HandS.ForMost
import HandS.IsInst
import HandS.Zip
import OpenK.KMore
import HandS.Exc
import HandS.ExcInit
import HandS.ExcField
import HandS.HotCalls
import HandS.Lambda
import HandS.WordsExc
import HandS.CallSlots
import KE.KTryMore
import HandS.More
import PyProof.CollectStr
import HandS.Property
import HandS.Style
import HandS.OwnEq
import HandS.TryOnly
import HandS.Star
import HandS.FStr
import HandS.RaiseMore
import HandS.TupAny
import HandS.MakeKw
import HandS.MakeKwOnly
import KE.KCallOwn
import HandS.ReplaceList
import HandS.ReplaceLit
import HandS.DictComp
import HandS.ClsMeth
import HandS.Defaults
import HandS.Nested
import HandS.StrMore
import HandS.EndTab
import PySem.Challenge.RW_ownfill_k71_answers_of_no_template
set_option Elab.async false
set_option linter.all false
set_option maxRecDepth 100000
set_option maxHeartbeats 4000000
namespace Own
open PySem PySem.Spec PyProof.Rows L2

/-! ### walks that give a new tuple at each turn -/
/-- what an iterator of new tuples gives, in the library's words (GoesN), is a turn of the hand layer: at turn i the tuple's items are some vs with R i vs -/
theorem turn_tuples {P : Program} {w : World} {K : PySem.W.Frag} {tg : Expr} {I : Addr} {fp wr : List Addr} {n : Nat} {St : Nat → Heap → Prop}
    {Y : Nat → Heap → Value → Heap → Prop} {R : Nat → List V → Prop} {J : It} (W : ∀ A : Around, A.handled = none → GoesN P w A tg I fp wr n Y St)
    (hY : ∀ i h0 u h, Y i h0 u h → ∃ T vs us, u = .ref T ∧ h0.objs.size ≤ T ∧ vs.length ≤ sizeLine ∧ R i vs ∧ Vals vs us ∧ h.IsTuple T us.toArray)
    (mem : I ∈ fp) (obj : ∀ i h, St i h → ∀ b ∈ fp, ∃ o, h.get? b = some o ∧ ∀ v, o.data ≠ .cell v)
    (self : ∀ (A : Around) (i : Nat) (s : Shared) (Q : Value → Shared → Prop) (E : Value → Shared → Prop), St i s.heap → Q (.ref I) s → wpAny (model P w) A (pyIter (.ref I)) Q E s)
    (go : ∀ i H, J.go i H → i < n) (stop : ∀ i H, J.stop i H → i = n) (yld : ∀ i H T vs, H T = none → R i vs → J.yld i H (.ref T) (upd H T (.tup vs))) :
    Turn P w K tg J fp I St := by
  refine ⟨mem, obj, fun i h h' st k => (W callerA rfl).frame i h h' st k, ?_, ?_, self⟩
  · rintro X rfl rfl rfl calm i pins s σ H E I0 off st hg
    have G := W X.A (I0.ok.hd calm)
    refine G.goes i s (fun u s2 => ∃ x H', Inv X pins σ H' s2 ∧ RelV x u ∧ J.yld i H x H' ∧ St (i + 1) s2.heap ∧ ∀ b ∈ fp, H' b = none) E (go i H hg) st fun u h tk y st' rest _ => ?_
    obtain ⟨T, vs, us, rfl, young, len, r, rel, tup⟩ := hY _ _ _ _ y
    refine ⟨.ref T, upd H T (.tup vs), ?_, rfl, yld i H T vs (I0.hok.fresh young) r, st', fun b hb => ?_⟩
    · refine I0.turnedNew (t' := tk) (ch := fp) (fun b o nb q => rest b o (fun m => nb (G.sub b m)) q) off young ?_
      obtain ⟨o, e1, e2, e3⟩ := tup
      exact ⟨len, us, rel, o, e1, e2, e3⟩
    · obtain ⟨o, ho, _⟩ := obj i s.heap st b hb
      rw [upd_ne (Nat.ne_of_lt (Nat.lt_of_lt_of_le (Heap.lt_size ho) young))]
      exact (off b hb).1
  · rintro X rfl rfl rfl calm i pins s σ H E I0 off st hg
    have G := W X.A (I0.ok.hd calm)
    rw [stop i H hg] at st
    exact G.stops s (fun s1 => Inv X pins σ H s1) E st fun h tk rest _ => I0.turnedL (t' := tk) (ch := fp) (fun b o nb q => rest b o (fun m => nb (G.sub b m)) q) off

/-! ### a text's signs numbered -/
def ItE (z : Str) : It :=
  ⟨fun i _ => i < z.cps.size,
   fun i H v H' => ∃ T c, v = .ref T ∧ H T = none ∧ z.cps[i]? = some c ∧
     H' = upd H T (.tup [.int (i : Nat), .str ⟨#[c]⟩]),
   fun i _ => i = z.cps.size⟩

theorem turnE {P : Program} {w : World} {K : PySem.W.Frag} {elts : List Expr} {kk : Nat} {tpos : Pos} (z : Str) (t : Tok) (e it : Addr) (ne : e ≠ it) :
    Turn P w K (.Tuple elts kk tpos) (ItE z) [e, it] e
      (fun i h => (∃ old, IsEnum h e it (0 + (i : Int)) old) ∧ h.IsStrIter it (strIterType z) z t i) := by
  refine turn_tuples (R := fun i vs => ∃ c, z.cps[i]? = some c ∧ vs = [.int (i : Nat), .str ⟨#[c]⟩])
    (fun A hh => GoesN.enumFrom (elts := elts) (x1 := kk) (pos := tpos) 0 (Draws.text (prog := P) (w := w) (A := A.in1) hh it z t) e ne
      (fun m => ne (List.mem_singleton.mp m)) (List.mem_singleton.mpr rfl)) ?_ List.mem_cons_self ?_ ?_ (fun _ _ h => h) (fun _ _ h => h) ?_
  · rintro i h0 u h ⟨T, k, x, rfl, young, ⟨c, v, hc, rfl⟩, tup⟩
    rw [Int.zero_add] at tup
    exact ⟨T, _, [_, _], rfl, young, by show 2 ≤ sizeLine; decide, ⟨c, hc, rfl⟩, .cons ⟨_, rfl⟩ (.cons ⟨_, rfl⟩ .nil), tup⟩
  · rintro i h ⟨⟨old, he⟩, ⟨o, ho, _, hd⟩⟩
    simp only [List.forall_mem_cons]
    exact ⟨⟨_, he, fun v => nofun⟩, ⟨o, ho, fun v q => by rw [hd] at q; cases q⟩, fun _ q => nomatch q⟩
  · rintro A i s Q E ⟨⟨_, he⟩, _⟩ h
    exact wpAny_pyIter_enum he h
  · rintro i H T vs free ⟨c, hc, rfl⟩
    exact ⟨T, c, rfl, free, hc, rfl⟩

def iEnS (ta : TA) : TI := fun σ H R => ta σ H fun vs H1 => ∃ z, vs = [.str z] ∧ R (ItE z) H1

theorem pi_enS {X : Cx} {e : Expr} {ta : TA} {p pos tpos : Pos} {elts : List Expr} {kk : Nat}
    (hg : Gl X "enumerate") (hm : X.mg "enumerate" = none) (ha : PA X [e] ta)
    (hs : starEach [e] X.env = [(false, eval e X.env)] := by rfl) :
    PI X (.Tuple elts kk tpos) (.Call (.Name "enumerate" p) [e] [] pos) (iEnS ta) := by
  constructor
  intro pins s σ H R I h
  refine Call_ (ld_blt I hg hm boot_enumerate (PyProof.Rows.callWith_type1 (thn (ha.run pos pins s σ H _ I h) ?_) hs rfl))
  rintro us s1 ⟨vs, H1, I1, r1, z, rfl, q⟩
  obtain ⟨u, rfl, t, rfl⟩ := vals1 r1
  refine call_enumerate_str fun h' he hit _ hk => wpAny_pyIter_enum he ?_
  refine ⟨s1.heap.objs.size + 1, [s1.heap.objs.size + 1, s1.heap.objs.size], _, _, H1, rfl, I1.kept hk, turnE z t _ _ (Nat.succ_ne_self _), ⟨⟨.none, he⟩, hit⟩, ?_, q⟩
  have young : ∀ b, s1.heap.objs.size ≤ b → FpOk X pins H1 b := fun b lb => I1.fpOk lb (I1.hok.fresh lb)
  simp only [List.forall_mem_cons]
  exact ⟨young _ (Nat.le_add_right _ _), young _ (Nat.le_refl _), fun _ q => nomatch q⟩

theorem walkE {z : Str} : Walk (ItE z) z.cps.size (fun _ => True)
    (fun i H v H' => ∃ T c, v = .ref T ∧ H T = none ∧ z.cps[i]? = some c ∧
      H' = upd H T (.tup [.int (i : Nat), .str ⟨#[c]⟩])) :=
  ⟨fun _ _ h _ => h, fun _ _ => rfl, fun _ _ _ _ _ _ h => h⟩
end Own

namespace Own
open PySem PySem.Spec PyProof.Rows L2
/-! ### dict(zip(s, t)): a zip of any two iterators as a source of pairs -/
section
variable {P : Program} {w : World} {A : Around} {z TI TO T i1 i2 d : Addr} {f1 f2 : List Addr} {n1 n2 i : Nat} {s : Shared}
variable {R1 R2 : Nat → Value → Prop} {S1 S2 : Nat → Heap → Prop}

/-- one step of a zip of two whose last tuple is still out: first the one iterator, then the other, then a pair of its own -/
theorem zip_out {f : Bool} {o : Obj} {Q : Fin → Shared → Prop} {E : Value → Shared → Prop} (hz : IsZipHeld s.heap z TI TO T f)
    (hT : s.heap.get? T = some o) (hI : IsTupOf2 s.heap TI (.ref i1) (.ref i2))
    (k : ∀ g, IsZipHeld g z TI TO T true → Heap.SameBut z s.heap g →
      wpAny (model P w) A (Builtin.SmallTypes.nextOf (.ref i1)) (fun x s1 =>
        wpAny (model P w) A (Builtin.SmallTypes.nextOf (.ref i2)) (fun y s2 =>
          Q (.done (.ret (.ref s2.heap.objs.size)))
            { s2 with heap := s2.heap.push { cls := .type "tuple", data := .seq #[x, y] } }) E s1) E { s with heap := g }) :
    wpAny (model P w) A (Builtin.«zip.__next__» ⟨[.ref z], []⟩) Q E s := by
  refine wpAny_bind (m := field (.ref z) 2) (wpAny_field hz rfl (x := .bool false) rfl
    (wpAny_bind (m := field (.ref z) 3) (wpAny_field hz rfl (x := .ref TI) rfl (wpAny_bind (wpAny_seqItems hI rfl
      (wpAny_bind (m := Builtin.SmallTypes.ownedTupleIsFree (.ref z)) (wpAny_tupleHeld_zip hz hT fun g hg hs => ?_)))))))
  rw [if_neg Bool.false_ne_true]
  refine wpAny_bind ?_
  simp only [← Array.forIn_toList, List.forIn_cons, List.forIn_nil]
  refine wpAny_bind (wpAny_bind (wpAny_holding (wpAny_bind (m := Builtin.SmallTypes.nextOf (.ref i1)) ?_)))
  refine wpAny_mono (k g hg hs) (fun x s1 h1 => ?_) fun _ _ h => h
  refine wpAny_pure (wpAny_pure (wpAny_bind (wpAny_bind (wpAny_holding (wpAny_bind (m := Builtin.SmallTypes.nextOf (.ref i2)) ?_)))))
  refine wpAny_mono h1 (fun y s2 h2 => ?_) fun _ _ h => h
  exact wpAny_pure (wpAny_pure (wpAny_pure (wpAny_bind (m := newTuple [x, y]) (wpAny_newTuple (wpAny_pure h2)))))

/-- next(zip), told by its `__next__`: an item, or a StopIteration -/
theorem next_zip {Q : Option Value → Shared → Prop} {E : Value → Shared → Prop} (hy : s.TypeIs (.ref z) "zip")
    (h : wpAny (model P w) A.in1 (Builtin.«zip.__next__» ⟨[.ref z], []⟩) (fun r s' => ∃ v, r = .done (.ret v) ∧ Q (some v) s')
      (fun e s' => ∃ a o, e = .ref a ∧ s'.heap.get? a = some o ∧ o.cls = .type "StopIteration" ∧ Q none s') s) :
    wpAny (model P w) A (pyNext (.ref z)) Q E s := by
  unfold pyNext
  refine wpAny_bind (wpAny_attempt (wpAny_callSpecial?_slot (name := Str.ofString "__next__") hy F.slot_zip_next
    (wpAny_call_entry F.slot_zip_next hy F.entry_zip_next (wpAny_mono h (fun r s' ⟨v, e, q⟩ => ⟨v, e, wpAny_pure q⟩) fun e s' hs => ?_)
      (F.args_zip_next_1 _))))
  obtain ⟨a, o, rfl, ho, hc, q⟩ := hs
  exact wpAny_bind (wpAny_isInstance (T := "StopIteration") (b := true) ⟨o, ho, hc⟩ isSubtype_stop (wpAny_pure q))

/-- the zip at turn i: not asked yet, or its last tuple T is still out -/
def ZipAt (z TI TO i1 i2 d : Addr) (S1 S2 : Nat → Heap → Prop) (i : Nat) (h : Heap) : Prop :=
  IsTupOf2 h TI (.ref i1) (.ref i2) ∧ S1 i h ∧ S2 i h ∧
    ((IsZip h z TI TO .none ∧ ∃ u v, IsTupOf2 h TO u v) ∨
      ∃ T f o, IsZipHeld h z TI TO T f ∧ h.get? T = some o ∧ ∀ b ∈ [z, i1, i2, d], T ≠ b)

/-- all outside of some places stays -/
def Rest (l : List Addr) (h h' : Heap) : Prop := ∀ b o, b ∉ l → h.get? b = some o → h'.get? b = some o
theorem Rest.of {h h' : Heap} {x : Addr} (e : Heap.SameBut x h h') : Rest [x] h h' :=
  fun b o hb q => e.extBut b o (fun r => hb (List.mem_singleton.mpr r)) q
theorem Rest.push {h : Heap} {o : Obj} : Rest [] h (h.push o) := fun _ _ _ q => Heap.get?_push_of_some _ q
theorem Rest.seq {l1 l2 : List Addr} {h h1 h2 : Heap} (a : Rest l1 h h1) (b : Rest l2 h1 h2) : Rest (l1 ++ l2) h h2 :=
  fun c o hc q => b c o (fun r => hc (List.mem_append_right _ r)) (a c o (fun r => hc (List.mem_append_left _ r)) q)
theorem Rest.more {l1 l2 : List Addr} {h h' : Heap} (a : Rest l1 h h') (b : ∀ c ∈ l1, c ∈ l2) : Rest l2 h h' :=
  fun c o hc q => a c o (fun r => hc (b c r)) q

theorem src_zip (S : ZipSep2 z TI TO i1 i2 f1 f2) (D1 : Draws P w A.in1 i1 f1 n1 R1 S1) (D2 : Draws P w A.in1 i2 f2 n2 R2 S2)
    (off : ∀ b, b ∈ z :: TI :: TO :: f1 ++ f2 → d ≠ b) :
    PairSrc P w A z d [z, TO, i1, i2] (min n1 n2) (fun i k v => R1 i k ∧ R2 i v) (ZipAt z TI TO i1 i2 d S1 S2) := by
  have dz : d ≠ z := off z (by simp)
  have dI : d ≠ TI := off TI (by simp)
  have dO : d ≠ TO := off TO (by simp)
  have d1 : ∀ b ∈ f1, d ≠ b := fun b hb => off b (by simp [hb])
  have d2 : ∀ b ∈ f2, d ≠ b := fun b hb => off b (by simp [hb])
  have go1 : ∀ {i : Nat} {g g' : Heap} {l : List Addr}, S1 i g → Rest l g g' → (∀ b ∈ l, b ∉ f1) → S1 i g' :=
    fun st r a => D1.frame _ _ _ st fun b hb o q => r b o (fun m => a b m hb) q
  have go2 : ∀ {i : Nat} {g g' : Heap} {l : List Addr}, S2 i g → Rest l g g' → (∀ b ∈ l, b ∉ f2) → S2 i g' :=
    fun st r a => D2.frame _ _ _ st fun b hb o q => r b o (fun m => a b m hb) q
  refine ⟨?_, ?_, ?_, ?_⟩
  · intro m
    rcases List.mem_cons.mp m with r | m
    · exact dz r
    rcases List.mem_cons.mp m with r | m
    · exact dO r
    rcases List.mem_cons.mp m with r | m
    · exact d1 _ S.mem1 r
    · exact d2 _ S.mem2 (List.mem_singleton.mp m)
  · rintro i g g' ⟨hI, a, b, c⟩ k
    have rd : Rest [d] g g' := fun x o hx q => k x o (fun r => hx (List.mem_singleton.mpr r)) q
    refine ⟨k _ _ dI.symm hI, go1 a rd fun x hx m => d1 x m (List.mem_singleton.mp hx).symm,
      go2 b rd fun x hx m => d2 x m (List.mem_singleton.mp hx).symm, ?_⟩
    rcases c with ⟨c, u, v, e⟩ | ⟨T, f, o, c, e, n⟩
    · exact .inl ⟨k _ _ dz.symm c, u, v, k _ _ dO.symm e⟩
    · exact .inr ⟨T, f, o, k _ _ dz.symm c, k _ _ (n d (by simp)) e, n⟩
  · rintro i s Q E hi ⟨hI, a, b, c⟩ ld hQ
    have l1 : i < n1 := Nat.lt_of_lt_of_le hi (Nat.min_le_left ..)
    have l2 : i < n2 := Nat.lt_of_lt_of_le hi (Nat.min_le_right ..)
    have old : ∀ {x o}, s.heap.get? x = some o → s.heap.objs.size ≠ x := fun q => Nat.ne_of_gt (Heap.lt_size q)
    obtain ⟨o1, e1⟩ := D1.live _ _ a
    obtain ⟨o2, e2⟩ := D2.live _ _ b
    rcases c with ⟨c, u, v, e⟩ | ⟨T, f, o, c, e, n⟩
    · refine wpAny_pyNext_zipD2_item S D1 D2 c hI e a b l1 l2 fun x y g tk hx hy gz gO ga gb gp _ k => ?_
      have r : Rest [z, TO, i1, i2] s.heap g := fun b o hb q => k b o (fun x => hb (by simp [x])) (fun x => hb (by simp [x]))
        (fun x => hb (by simp [x])) (fun x => hb (by simp [x])) q
      refine hQ _ _ _ g tk ⟨hx, hy⟩ (.inl ⟨_, gp, rfl, _, rfl⟩) ⟨k _ _ S.TIz S.TITO S.TIi1 S.TIi2 hI, ga, gb, .inr ⟨_, false, _, gz, gp, ?_⟩⟩ r
      simp only [List.forall_mem_cons]
      exact ⟨old c, old e1, old e2, Nat.ne_of_gt ld, fun _ q => nomatch q⟩
    · have nz : T ≠ z := n z (by simp)
      have n1' : T ≠ i1 := n i1 (by simp)
      have n2' : T ≠ i2 := n i2 (by simp)
      refine next_zip ⟨_, c, rfl⟩ (zip_out c e hI fun g gz gs => ?_)
      have r0 := Rest.of gs
      refine D1.item i _ _ _ l1 (go1 a r0 fun x hx => by rw [List.mem_singleton.mp hx]; exact S.zf1) fun x g1 t1 hx a1 s1 => ?_
      have r1 := Rest.of (show Heap.SameBut i1 g g1 from s1)
      have b1 := go2 (go2 b r0 fun x hx => by rw [List.mem_singleton.mp hx]; exact S.zf2) r1 fun x hx => by rw [List.mem_singleton.mp hx]; exact S.sep1_2
      refine D2.item i _ _ _ l2 b1 fun y g2 t2 hy b2 s2 => ?_
      have r2 := Rest.of (show Heap.SameBut i2 g1 g2 from s2)
      have rp : Rest [] g2 (g2.push { cls := .type "tuple", data := .seq #[x, y] }) := Rest.push
      have all : Rest [z, i1, i2] s.heap (g2.push { cls := .type "tuple", data := .seq #[x, y] }) := ((r0.seq r1).seq r2).seq rp
      have keep : ∀ b o, b ≠ z → b ≠ i1 → b ≠ i2 → s.heap.get? b = some o → (g2.push { cls := .type "tuple", data := .seq #[x, y] }).get? b = some o :=
        fun b o h1 h2 h3 q => all b o (by simp [h1, h2, h3]) q
      have gz2 : IsZipHeld g2 z TI TO T true := r2 _ _ (by simp [S.zi2]) (r1 _ _ (by simp [S.zi1]) gz)
      refine ⟨_, rfl, hQ _ _ _ _ t2 ⟨hx, hy⟩ (.inl ⟨_, Heap.get?_push_size _ rfl, rfl, _, rfl⟩) ⟨keep _ _ S.TIz S.TIi1 S.TIi2 hI,
        go1 (go1 a1 r2 fun x hx => by rw [List.mem_singleton.mp hx]; exact S.sep2_1) rp (fun _ h => nomatch h), go2 b2 rp (fun _ h => nomatch h),
        .inr ⟨T, true, o, rp _ _ (by simp) gz2, keep _ _ nz n1' n2' e, n⟩⟩ (all.more fun c hc => ?_)⟩
      revert c
      simp only [List.nil_append, List.cons_append, List.forall_mem_cons]
      exact ⟨by simp, by simp, by simp, fun _ q => nomatch q⟩
  · rintro s Q E ⟨hI, a, b, c⟩ hQ
    have m1 := Nat.min_le_left n1 n2
    have m2 := Nat.min_le_right n1 n2
    have hm : min n1 n2 = n1 ∨ min n1 n2 = n2 := by omega
    rcases c with ⟨c, u, v, e⟩ | ⟨T, f, o, c, e, n⟩
    · refine wpAny_pyNext_zipD2_end S D1 D2 c hI e a b m1 m2 hm fun g tk k => hQ g tk fun b o hb q => ?_
      exact k b o (fun x => hb (by simp [x])) (fun x => hb (by simp [x])) (fun x => hb (by simp [x])) (fun x => hb (by simp [x])) q
    · refine next_zip ⟨_, c, rfl⟩ (zip_out c e hI fun g gz gs => ?_)
      have r0 := Rest.of gs
      have a0 := go1 a r0 fun x hx => by rw [List.mem_singleton.mp hx]; exact S.zf1
      have b0 := go2 b r0 fun x hx => by rw [List.mem_singleton.mp hx]; exact S.zf2
      by_cases h1 : min n1 n2 < n1
      · refine D1.item _ _ _ _ h1 a0 fun x g1 t1 hx a1 s1 => ?_
        have r1 := Rest.of (show Heap.SameBut i1 g g1 from s1)
        have b1 := go2 b0 r1 fun x hx => by rw [List.mem_singleton.mp hx]; exact S.sep1_2
        have e2 : min n1 n2 = n2 := by omega
        rw [e2] at b1
        refine D2.done _ _ _ b1 fun g2 x q hx => ?_
        obtain ⟨o', ho, hc⟩ := hx
        have r2 : Rest [i2] g1 g2 := fun b o hb y => q b o (fun r => hb (List.mem_singleton.mpr r)) y
        refine ⟨x, o', rfl, ho, hc, hQ g2 t1 (((r0.seq r1).seq r2).more fun c hc => ?_)⟩
        revert c
        simp only [List.nil_append, List.cons_append, List.forall_mem_cons]
        exact ⟨by simp, by simp, by simp, fun _ q => nomatch q⟩
      · have e1 : min n1 n2 = n1 := by omega
        rw [e1] at a0
        refine D1.done _ _ _ a0 fun g2 x q hx => ?_
        obtain ⟨o', ho, hc⟩ := hx
        have r2 : Rest [i1] g g2 := fun b o hb y => q b o (fun r => hb (List.mem_singleton.mpr r)) y
        refine ⟨x, o', rfl, ho, hc, hQ g2 s.toks ((r0.seq r2).more fun c hc => ?_)⟩
        revert c
        simp only [List.nil_append, List.cons_append, List.forall_mem_cons]
        exact ⟨by simp, by simp, fun _ q => nomatch q⟩
end

/-- a zip of two texts, not asked yet -/
structure ZipNew (z TI TO i1 i2 : Addr) (x y : Str) (t u : Tok) (h : Heap) : Prop where
  zip : IsZip h z TI TO .none
  its : IsTupOf2 h TI (.ref i1) (.ref i2)
  out : ∃ a b, IsTupOf2 h TO a b
  one : h.IsStrIter i1 (strIterType x) x t 0
  two : h.IsStrIter i2 (strIterType y) y u 0

/-- the pairs of two texts' signs -/
theorem argZ {prog : Program} {w : World} (z TI TO i1 i2 : Addr) (x y : Str) (t u : Tok) (S : ZipSep2 z TI TO i1 i2 [i1] [i2]) :
    PairArg prog w "zip" z [z, TI, TO, i1, i2] [z, TO, i1, i2] (min x.cps.size y.cps.size)
      (fun i k v => (∃ c r, x.cps[i]? = some c ∧ k = .str ⟨#[c]⟩ r) ∧ (∃ c r, y.cps[i]? = some c ∧ v = .str ⟨#[c]⟩ r))
      (ZipNew z TI TO i1 i2 x y t u) := by
  refine ⟨fun s ok => ⟨_, ok.zip, rfl⟩, by decide, fun h h' ok k => ?_, fun h ok b hb => ?_, fun b hb => ?_,
    fun A s Q E hA ok h => getAttrOr_miss_zip ok.zip rfl rfl rfl zip_no_keys (by decide +kernel) hA h, fun A s d Q E hA ok hd hdf h => ?_⟩
  · obtain ⟨a, b, ho⟩ := ok.out
    obtain ⟨o1, e1, r1⟩ := ok.one
    obtain ⟨o2, e2, r2⟩ := ok.two
    exact ⟨k _ _ ok.zip, k _ _ ok.its, ⟨a, b, k _ _ ho⟩, ⟨o1, k _ _ e1, r1⟩, ⟨o2, k _ _ e2, r2⟩⟩
  · obtain ⟨_, _, ho⟩ := ok.out
    obtain ⟨o1, e1, _⟩ := ok.one
    obtain ⟨o2, e2, _⟩ := ok.two
    have all : ∀ c ∈ [z, TI, TO, i1, i2], ∃ o, h.get? c = some o := by
      simp only [List.forall_mem_cons]
      exact ⟨⟨_, ok.zip⟩, ⟨_, ok.its⟩, ⟨_, ho⟩, ⟨_, e1⟩, ⟨_, e2⟩, fun _ q => nomatch q⟩
    exact all b hb
  · have all : ∀ c ∈ [z, TO, i1, i2], c ∈ [z, TI, TO, i1, i2] := by
      simp only [List.forall_mem_cons]
      exact ⟨by simp, by simp, by simp, by simp, fun _ q => nomatch q⟩
    exact all b hb
  · have D1 := Draws.text (prog := prog) (w := w) (A := A.in1) hA i1 x t
    have D2 := Draws.text (prog := prog) (w := w) (A := A.in1) hA i2 y u
    have src := src_zip (d := d) S D1 D2 fun b hb r => hdf (by rw [r]; simpa using hb)
    exact wpAny_pyIter_zip ok.zip (h z [z, TO, i1, i2] _ s.heap s.toks src ⟨ok.its, ok.one, ok.two, .inl ⟨ok.zip, ok.out⟩⟩ (fun _ _ e => e) fun b hb => .inl hb)
end Own

namespace Own
open PySem PySem.Spec PyProof.Rows L2
/-- the pairs of two texts -/
def zipS (x y : Str) : List (Key × V) :=
  (x.cps.toList.zip y.cps.toList).map fun p => (Sum.inr ⟨#[p.1]⟩, V.str ⟨#[p.2]⟩)

theorem zipS_len (x y : Str) : (zipS x y).length = min x.cps.size y.cps.size := by
  unfold zipS
  rw [List.length_map, List.length_zip]
  rfl
theorem zipS_at {x y : Str} {i a b : Nat} (hx : x.cps[i]? = some a) (hy : y.cps[i]? = some b) :
    (zipS x y)[i]? = some (Sum.inr ⟨#[a]⟩, V.str ⟨#[b]⟩) := by
  unfold zipS
  rw [← Array.getElem?_toList] at hx hy
  rw [List.getElem?_map, List.getElem?_zip_eq_some (z := (a, b)) |>.mpr ⟨hx, hy⟩]
  rfl
theorem mergeK_snoc (kvs more : List (Key × V)) {i : Nat} {k : Key} {v : V}
    (h : more[i]? = some (k, v)) :
    mergeK kvs (more.take (i + 1)) = putK (mergeK kvs (more.take i)) k v := by
  unfold mergeK
  rw [List.take_add_one, h]
  simp

theorem call_dz {prog : Program} {w : World} {A : Around} {E : Value → Shared → Prop}
    {s : Shared} {z TI TO i1 i2 : Addr} {x y : Str} {t u : Tok}
    {Q : Value → Shared → Prop} (S : ZipSep2 z TI TO i1 i2 [i1] [i2]) (hh : A.handled = none)
    (hz : IsZip s.heap z TI TO .none) (hTI : IsTupOf2 s.heap TI (.ref i1) (.ref i2))
    (hTO : ∃ a b, IsTupOf2 s.heap TO a b) (h1 : s.heap.IsStrIter i1 (strIterType x) x t 0)
    (h2 : s.heap.IsStrIter i2 (strIterType y) y u 0) (hsz : min x.cps.size y.cps.size ≤ sizeLine)
    (h : ∀ h' tk vs, KV (mergeK [] (zipS x y)) vs →
      h'.DictOf (mixKind prog w) s.heap.objs.size vs →
      (∀ b o, b ≠ z → b ≠ TO → b ≠ i1 → b ≠ i2 → s.heap.get? b = some o → h'.get? b = some o) →
      Q (.ref s.heap.objs.size) { s with heap := h', toks := tk }) :
    wpAny (model prog w) A (call (.type "dict") [.ref z]) Q E s := by
  refine call_dict_arg (argZ z TI TO i1 i2 x y t u S) ⟨hz, hTI, hTO, h1, h2⟩
    fun s1 es hdf ok1 => ?_
  subst es
  refine updateFrom_arg (A := A.in1) (Tab := fun i h => ∃ vs,
      KV (mergeK [] ((zipS x y).take i)) vs ∧ h.DictOf (mixKind prog w) s.heap.objs.size vs)
    (argZ z TI TO i1 i2 x y t u S) .none hh ok1 hdf ?_ (fun _ _ ⟨_, _, tb⟩ => tb.lt_size)
    (fun i g g' wr' hd _ ⟨vs, r, tb⟩ hk => ⟨vs, r, tb.at' fun o e => hk _ o hd e⟩) ?_ ?_
  · exact ⟨[], .nil, Heap.DictOf.new s.heap⟩
  · intro i key v s' Q' E' hi hrel tb _ hQ
    obtain ⟨⟨c, r, hc, rfl⟩, ⟨c', r', hc', rfl⟩⟩ := hrel
    obtain ⟨vs, rel, tb⟩ := tb
    have ez := zipS_at hc hc'
    have hl : vs.length < sizeLine := by
      have l1 := rel.length
      have l2 := length_mergeK ((zipS x y).take i) []
      rw [List.length_take, List.length_nil] at l2
      omega
    refine wpAny_dictSet_pairs (k := (Sum.inr ⟨#[c]⟩ : Key)) (hsz := by omega) (mixKind_str prog w _ _) tb fun h' hm' hs => ?_
    refine hQ h' _ ⟨_, ?_, hm'⟩ hs
    rw [mergeK_snoc _ _ ez]
    exact rel.put _ ⟨_, rfl⟩
  · intro h' tk tb hk
    obtain ⟨vs, rel, tb⟩ := tb
    rw [List.take_of_length_le (by rw [zipS_len]; exact Nat.le_refl _)] at rel
    refine ⟨rfl, h h' tk vs rel tb fun b o a1 a2 a3 a4 e => hk b o (Nat.ne_of_lt (Heap.lt_size e)) ?_
      (Heap.get?_push_of_some _ e)⟩
    intro hm
    simp only [List.mem_cons, List.not_mem_nil, or_false] at hm
    rcases hm with q | q | q | q
    · exact a1 q
    · exact a2 q
    · exact a3 q
    · exact a4 q

def tDZ (t : TA) : TE := fun σ H Q => t σ H fun vs H1 => ∃ x y : Str, vs = [.str x, .str y] ∧
  min x.cps.size y.cps.size ≤ sizeLine ∧
  ∀ d, H1 d = none → Q (.ref d) (upd H1 d (.dK (mergeK [] (zipS x y))))

theorem pe_dz {X : Cx} {a b : Expr} {t : TA} {p p2 q pos : Pos} (hg : Gl X "dict")
    (hm : X.mg "dict" = none) (hg2 : Gl X "zip") (hm2 : X.mg "zip" = none) (ha : PA X [a, b] t)
    (hc : X.calm = true := by rfl)
    (n1 : starEach [a, b] X.env = (false, eval a X.env) :: starEach [b] X.env := by rfl)
    (n2 : starEach [b] X.env = (false, eval b X.env) :: starEach [] X.env := by rfl) :
    PE X (.Call (.Name "dict" p) [.Call (.Name "zip" p2) [a, b] [] q] [] pos) (tDZ t) := by
  refine ⟨fun pins s σ H Q I h => ?_⟩
  refine Call_ (ld_blt I hg hm (u := .type "dict") (by decide +kernel) ?_)
  refine PyProof.Rows.callWith_type1 (PyProof.Rows.args_cons ?_ rfl) rfl rfl
  refine Call_ (ld_blt I hg2 hm2 (u := .type "zip") (by decide +kernel) ?_)
  refine PyProof.Rows.callWith_type1 (thn (ha.run q pins s σ H _ I h)
    fun us s1 ⟨vs, H1, I1, r1, q1⟩ => ?_) n1 (by rw [n2]; rfl)
  obtain ⟨x, y, ex, hsz, q1⟩ := q1
  subst ex
  obtain ⟨u1, u2, eu, rx, ry⟩ := vals2 r1
  subst eu
  obtain ⟨tx, rfl⟩ := rx
  obtain ⟨ty, rfl⟩ := ry
  refine zip_begins2 (begins_text x tx) (begins_text y ty) trivial trivial
    fun h' hz hTI hTO g1 g2 hs hk => ?_
  refine PyProof.Rows.args_nil ?_
  have S := zip_sep2 (N := s1.heap.objs.size) (fp1 := []) (fp2 := []) (fun b hb => nomatch hb)
    (fun b hb => nomatch hb)
  refine call_dz (s := { s1 with heap := h' }) (t := tx) (u := ty) S (I1.ok.hd hc) hz hTI
    ⟨_, _, hTO⟩ ⟨_, g1, rfl, rfl⟩ ⟨_, g2, rfl, rfl⟩ hsz fun h2 tk vs rel hd hk2 => ?_
  have keep : ∀ b o, s1.heap.get? b = some o → h2.get? b = some o := fun b o e => by
    have lb : b < s1.heap.objs.size := Heap.lt_size e
    have k : ∀ j : Nat, b ≠ s1.heap.objs.size + j := fun j e => by
      rw [e] at lb
      exact absurd lb (Nat.not_lt_of_le (Nat.le_add_right _ _))
    exact hk2 b o (k 4) (k 3) (k 0) (k 1) (hk b o e)
  have big : s1.heap.objs.size ≤ h'.objs.size := by rw [hs]; exact Nat.le_add_right _ _
  have hmod : (h'.objs.size == sysModules) = false :=
    beq_eq_false_iff_ne.mpr (Nat.ne_of_gt (Nat.lt_of_lt_of_le I1.big big))
  have hlen : (mergeK [] (zipS x y)).length ≤ sizeLine := by
    have l2 := length_mergeK (zipS x y) []
    rw [List.length_nil, zipS_len] at l2
    omega
  exact ⟨.ref h'.objs.size, upd H1 h'.objs.size (.dK (mergeK [] (zipS x y))),
    I1.laid (t' := tk) keep big (show ObjOk X.prog X.w _ _ _ (.dK (mergeK [] (zipS x y))) from
      ⟨hlen, hmod, vs, rel, hd⟩), rfl, q1 _ (I1.hok.fresh big)⟩

/-- what the dict says of the i-th sign, the first text without a sign twice -/
theorem valV_merge_out (k : Key) : ∀ (more kvs : List (Key × V)), (∀ p ∈ more, p.1 ≠ k) →
    valV (mergeK kvs more) k = valV kvs k
  | [], kvs, _ => rfl
  | p :: r, kvs, h => by
    show valV (mergeK (putK kvs p.1 p.2) r) k = valV kvs k
    rw [valV_merge_out k r _ fun q hq => h q (List.mem_cons_of_mem _ hq), valV_put,
      if_neg fun e => h p (List.mem_cons_self ..) e.symm]
theorem valV_merge {k : Key} {v : V} : ∀ (more kvs : List (Key × V)) (i : Nat),
    (more.map (·.1)).Nodup → more[i]? = some (k, v) → valV (mergeK kvs more) k = some v
  | [], _, _, _, h => by simp at h
  | p :: r, kvs, 0, nd, h => by
    have e : p = (k, v) := Option.some.inj h
    subst e
    show valV (mergeK (putK kvs k v) r) k = some v
    rw [List.map_cons, List.nodup_cons] at nd
    rw [valV_merge_out k r _ fun q hq e => nd.1 (e ▸ List.mem_map_of_mem (f := (·.1)) hq),
      valV_put, if_pos rfl]
  | p :: r, kvs, i + 1, nd, h => by
    rw [List.map_cons, List.nodup_cons] at nd
    exact valV_merge r _ i nd.2 h
end Own

namespace Own
open PySem PySem.Spec PyProof.Rows L2 SX
/-! ### texts -/
theorem idx_of {c : Nat} : ∀ (a : List Nat) (i : Nat), a[i]? = some c → (∀ k, k < i → a[k]? ≠ some c) → a.idxOf c = i
  | [], i, h, _ => by simp at h
  | x :: r, 0, h, _ => by
    have e : x = c := Option.some.inj h
    rw [e, List.idxOf_cons_self]
  | x :: r, i + 1, h, hk => by
    have ne : x ≠ c := fun e => hk 0 (Nat.succ_pos _) (by rw [e]; rfl)
    have ih := idx_of r i h fun k lt e => hk (k + 1) (Nat.succ_lt_succ lt) e
    have nb : (x == c) = false := beq_eq_false_iff_ne.mpr ne
    rw [List.idxOf_cons, nb, ih]
    rfl
theorem occ1 {a : List Nat} {c : Nat} (h : c ∈ a) :
    ∃ rest, Builtin.Str.occurrences (S a) (S [c]) 0 (S a).length 1 = a.idxOf c :: rest := by
  obtain ⟨j, hj⟩ := List.mem_iff_getElem?.mp h
  rcases StrLaws.occ_head (S a) (S [c]) 1 (Nat.le_refl _) with ⟨_, hn⟩ | ⟨i, r, e, hi, hk⟩
  · exact absurd ((StrLaws.subAt_one (S a) c j).mpr hj) (hn j)
  · have h1 : a[i]? = some c := (StrLaws.subAt_one (S a) c i).mp hi
    have e2 := idx_of a i h1 fun k lt q => hk k lt ((StrLaws.subAt_one (S a) c k).mpr q)
    exact ⟨r, by rw [e, e2]⟩
theorem join1 : ∀ cs : List Nat, TL.joinL [] (cs.map fun c => [c]) = cs
  | [] => rfl
  | [_] => rfl
  | x :: y :: r => by
    show [x] ++ ([] ++ TL.joinL [] ((y :: r).map fun c => [c])) = x :: y :: r
    rw [join1 (y :: r)]
    rfl
theorem empty_S : Str.ofString "" = S [] := rfl
theorem joinC (cs : List Nat) : Txt.join (Str.ofString "") (cs.map fun c => S [c]) = S cs := by
  rw [empty_S]
  have e := join_S [] (cs.map fun c => [c])
  rw [List.map_map, join1] at e
  exact e
theorem joinT (ts : List (List Nat)) : Txt.join (Str.ofString "") (ts.map S) = S ts.flatten := by
  rw [empty_S, join_S]
  congr 2
  induction ts with
  | nil => rfl
  | cons x r ih =>
    cases r with
    | nil => simp [TL.joinL]
    | cons y r =>
      show x ++ ([] ++ TL.joinL [] (y :: r)) = _
      rw [ih]
      rfl
theorem one_len (cs : List Nat) : ((cs.map fun c => S [c]).map (·.length)).sum = cs.length := by
  induction cs with
  | nil => rfl
  | cons c r ih =>
    rw [List.map_cons, List.map_cons, List.sum_cons, ih, List.length_cons, S_len]
    show 1 + r.length = _
    omega
theorem az : Str.ofString "abcdefghijklmnopqrstuvwxyz" = S (List.range' 97 26) := by decide +kernel

/-! ### turns -/
theorem get_idx {gs : List Nat} {c : Nat} (h : c ∈ gs) : gs[gs.idxOf c]? = some c := by
  rw [List.getElem?_eq_getElem (List.idxOf_lt_length_of_mem h), List.getElem_idxOf]
def tau (gs p : List Nat) (c : Nat) : Nat := p.getD (gs.idxOf c) 0
theorem tau_at {gs p : List Nat} {c : Nat} (h : c ∈ gs) (hl : p.length = gs.length) : p[gs.idxOf c]? = some (tau gs p c) := by
  have lt : gs.idxOf c < p.length := by rw [hl]; exact List.idxOf_lt_length_of_mem h
  unfold tau
  rw [List.getD_eq_getElem?_getD, List.getElem?_eq_getElem lt]
  rfl
theorem tau_mem {gs p : List Nat} {c : Nat} (h : c ∈ gs) (hl : p.length = gs.length) : tau gs p c ∈ p :=
  List.mem_of_getElem? (tau_at h hl)
theorem tau_self {gs : List Nat} {c : Nat} (h : c ∈ gs) : tau gs gs c = c := by
  have e := tau_at h (rfl : gs.length = gs.length)
  have e2 : gs[gs.idxOf c]? = some c := get_idx h
  rw [e] at e2
  exact Option.some.inj e2
theorem tau_map {gs m : List Nat} (f : Nat → Nat) {c : Nat} (h : c ∈ gs) (hl : m.length = gs.length) :
    tau gs (m.map f) c = f (tau gs m c) := by
  have e := tau_at (p := m.map f) h (by rw [List.length_map, hl])
  rw [List.getElem?_map, tau_at h hl] at e
  exact (Option.some.inj e).symm
theorem idx_get {y : List Nat} (nd : y.Nodup) {i c : Nat} (h : y[i]? = some c) : y.idxOf c = i := by
  refine idx_of y i h fun k lt e => ?_
  obtain ⟨h1, e1⟩ := List.getElem?_eq_some_iff.mp h
  obtain ⟨h2, e2⟩ := List.getElem?_eq_some_iff.mp e
  have : k = i := (List.getElem_inj nd).mp (e2.trans e1.symm)
  omega
/-- back again -/
theorem tau_back {gs y : List Nat} (nd : y.Nodup) (hl : y.length = gs.length) {x : Nat} (h : x ∈ gs) :
    tau y gs (tau gs y x) = x := by
  have e := idx_get nd (tau_at h hl)
  unfold tau at e ⊢
  rw [e]
  exact tau_self h
def und (gs y : List Nat) : List Nat := gs.map (tau y gs)
theorem und_back {gs y : List Nat} (nd : y.Nodup) (hl : y.length = gs.length) (hm : ∀ c ∈ y, c ∈ gs) {x : Nat} (h : x ∈ gs) :
    tau gs (und gs y) (tau gs y x) = x := by
  have hy := hm _ (tau_mem h hl)
  unfold und
  rw [tau_map _ hy rfl, tau_self hy]
  exact tau_back nd hl h

/-! ### how often -/
def it (gs t : List Nat) : Nat → List Nat
  | 0 => t
  | j + 1 => (it gs t j).map (tau gs t)
def rho (p : List Nat) : Nat → List Nat
  | 0 => p
  | j + 1 => (rho p j).map fun i => p.getD i 0
def lists (n : Nat) : Nat → List (List Nat)
  | 0 => [[]]
  | k + 1 => (List.range n).flatMap fun a => (lists n k).map fun l => a :: l
theorem mem_lists {n : Nat} : ∀ l : List Nat, (∀ a ∈ l, a < n) → l ∈ lists n l.length
  | [], _ => List.mem_singleton.mpr rfl
  | a :: r, h => by
    refine List.mem_flatMap.mpr ⟨a, List.mem_range.mpr (h a (List.mem_cons_self ..)), List.mem_map.mpr ⟨r, ?_, rfl⟩⟩
    exact mem_lists r fun b hb => h b (List.mem_cons_of_mem _ hb)
theorem rho_all : ∀ n ∈ List.range 5, ∀ p ∈ lists n n, p.Nodup → ∃ j ∈ List.range 12, rho p j = List.range n := by
  decide +kernel
theorem it_rho {gs t p : List Nat} (nd : gs.Nodup) (hl : t.length = gs.length) (hp : ∀ i ∈ p, i < gs.length) (hpl : p.length = gs.length)
    (ht : t = p.map fun i => gs.getD i 0) : ∀ j, it gs t j = (rho p j).map (fun i => gs.getD i 0) ∧ ∀ i ∈ rho p j, i < gs.length
  | 0 => ⟨ht, hp⟩
  | j + 1 => by
    obtain ⟨ih, hi⟩ := it_rho nd hl hp hpl ht j
    have pd : ∀ i, i < gs.length → p.getD i 0 ∈ p := fun i lt => by
      rw [List.getD_eq_getElem?_getD, List.getElem?_eq_getElem (by omega)]
      exact List.getElem_mem _
    refine ⟨?_, fun i hm => ?_⟩
    · show (it gs t j).map (tau gs t) = ((rho p j).map fun i => p.getD i 0).map fun i => gs.getD i 0
      rw [ih, List.map_map, List.map_map]
      refine List.map_congr_left fun i hm => ?_
      have lt := hi i hm
      show tau gs t (gs.getD i 0) = gs.getD (p.getD i 0) 0
      have e1 : gs[i]? = some (gs.getD i 0) := by
        rw [List.getD_eq_getElem?_getD, List.getElem?_eq_getElem lt]; rfl
      unfold tau
      rw [idx_get nd e1, ht]
      have lp : i < p.length := by omega
      have e2 : p.getD i 0 = p[i] := by
        rw [List.getD_eq_getElem?_getD, List.getElem?_eq_getElem lp]; rfl
      rw [e2, List.getD_eq_getElem?_getD, List.getElem?_map, List.getElem?_eq_getElem lp]
      rfl
    · have hm2 : i ∈ (rho p j).map fun i => p.getD i 0 := hm
      obtain ⟨k, hk, rfl⟩ := List.mem_map.mp hm2
      exact hp _ (pd k (hi k hk))
theorem ord_ex {gs t : List Nat} (nd : gs.Nodup) (h4 : gs.length ≤ 4) (hp : t.Perm gs) : ∃ j, j < 12 ∧ it gs t j = gs := by
  have hl := hp.length_eq
  have lt : ∀ i ∈ t.map gs.idxOf, i < gs.length := fun i hm => by
    obtain ⟨c, hc, rfl⟩ := List.mem_map.mp hm
    exact List.idxOf_lt_length_of_mem (hp.mem_iff.mp hc)
  have ll : (t.map gs.idxOf).length = gs.length := by rw [List.length_map, hl]
  have back : t = (t.map gs.idxOf).map fun i => gs.getD i 0 := by
    rw [List.map_map]
    refine (List.map_id t).symm.trans (List.map_congr_left fun c hc => ?_)
    exact (tau_self (hp.mem_iff.mp hc)).symm
  have ndt : t.Nodup := hp.nodup_iff.mpr nd
  have ndp : (t.map gs.idxOf).Nodup := by
    have h : ((t.map gs.idxOf).map fun i => gs.getD i 0).Nodup := by rw [← back]; exact ndt
    exact (List.pairwise_map.mp h).imp fun hne e => hne (congrArg (fun i => gs.getD i 0) e)
  have hm := mem_lists (n := gs.length) _ lt
  rw [ll] at hm
  obtain ⟨j, hj, e⟩ := rho_all gs.length (List.mem_range.mpr (by omega)) _ hm ndp
  refine ⟨j, List.mem_range.mp hj, ?_⟩
  rw [(it_rho nd hl lt ll back j).1, e]
  refine List.ext_getElem? fun i => ?_
  rw [List.getElem?_map]
  by_cases h : i < gs.length
  · rw [List.getElem?_range h, List.getElem?_eq_getElem h]
    show some (gs.getD i 0) = _
    rw [List.getD_eq_getElem?_getD, List.getElem?_eq_getElem h]
    rfl
  · rw [List.getElem?_eq_none (by rw [List.length_range]; omega), List.getElem?_eq_none (by omega)]
    rfl
theorem it_mem {gs t : List Nat} (hp : t.Perm gs) : ∀ j, (it gs t j).length = gs.length ∧ ∀ c ∈ it gs t j, c ∈ gs
  | 0 => ⟨hp.length_eq, fun c hc => hp.mem_iff.mp hc⟩
  | j + 1 => by
    obtain ⟨a, b⟩ := it_mem hp j
    refine ⟨by show ((it gs t j).map (tau gs t)).length = _; rw [List.length_map, a], fun c hc => ?_⟩
    have hc2 : c ∈ (it gs t j).map (tau gs t) := hc
    obtain ⟨x, hx, rfl⟩ := List.mem_map.mp hc2
    exact hp.mem_iff.mp (tau_mem (b x hx) hp.length_eq)
/-- the first j at which it is gs -/
theorem ord_least {gs t : List Nat} (nd : gs.Nodup) (h4 : gs.length ≤ 4) (hp : t.Perm gs) :
    ∃ J, J < 12 ∧ it gs t J = gs ∧ ∀ k, k < J → it gs t k ≠ gs := by
  obtain ⟨j, hj, e⟩ := ord_ex nd h4 hp
  have main : ∀ n, n ≤ j → it gs t n = gs → ∃ J, J < 12 ∧ it gs t J = gs ∧ ∀ k, k < J → it gs t k ≠ gs := by
    intro n
    induction n using Nat.strongRecOn with
    | ind n ih =>
      intro hn en
      by_cases h : ∃ k, k < n ∧ it gs t k = gs
      · obtain ⟨k, lt, ek⟩ := h
        exact ih k lt (by omega) ek
      · exact ⟨n, by omega, en, fun k lt ek => h ⟨k, lt, ek⟩⟩
  exact main j (Nat.le_refl _) e

/-! ### letters -/
def lets (f s n : Nat) : List Nat := (List.range n).map fun k => 97 + (f + s * k) % 26
theorem lets_nd : ∀ f ∈ List.range 26, ∀ s ∈ [1, 3, 5, 25, 7], ∀ n ∈ [2, 3, 4], (lets f s n).Nodup := by
  decide +kernel
structure Good (gs : List Nat) : Prop where
  lo : 2 ≤ gs.length
  hi : gs.length ≤ 4
  nd : gs.Nodup
  az : ∀ c ∈ gs, 97 ≤ c ∧ c ≤ 122
theorem lets_good {f s n : Nat} (hf : f < 26) (hs : s ∈ [1, 3, 5, 25, 7]) (hn : n ∈ [2, 3, 4]) : Good (lets f s n) := by
  have hl : (lets f s n).length = n := by unfold lets; rw [List.length_map, List.length_range]
  have h2 : 2 ≤ n ∧ n ≤ 4 := by
    simp only [List.mem_cons, List.not_mem_nil, or_false] at hn
    omega
  refine ⟨by omega, by omega, lets_nd f (List.mem_range.mpr hf) s hs n hn, fun c hc => ?_⟩
  obtain ⟨k, _, rfl⟩ := List.mem_map.mp hc
  omega

/-! ### the dict of two texts -/
theorem dz_get {gs t : List Nat} {c : Nat} (nd : gs.Nodup) (hl : t.length = gs.length) (h : c ∈ gs) :
    valV (mergeK [] (zipS (S gs) (S t))) (Sum.inr (S [c])) = some (.str (S [tau gs t c])) := by
  refine valV_merge _ _ (gs.idxOf c) ?_ ?_
  · have e : (zipS (S gs) (S t)).map (·.1) = gs.map fun c => (Sum.inr (S [c]) : Key) := by
      unfold zipS
      rw [List.map_map]
      show (List.zip gs t).map (fun p => (Sum.inr (S [p.1]) : Key)) = _
      have : (fun p : Nat × Nat => (Sum.inr (S [p.1]) : Key)) = (fun c => (Sum.inr (S [c]) : Key)) ∘ Prod.fst := rfl
      rw [this, ← List.map_map, List.map_fst_zip (by omega)]
    rw [e]
    refine List.pairwise_map.mpr (nd.imp fun hne q => hne ?_)
    have q1 := Sum.inr.inj q
    have q2 := S_inj q1
    exact List.head_eq_of_cons_eq q2
  · refine zipS_at (x := S gs) (y := S t) (i := gs.idxOf c) (a := c) (b := tau gs t c) ?_ ?_
    · show (gs.toArray)[gs.idxOf c]? = some c
      rw [List.getElem?_toArray]
      exact get_idx h
    · show (t.toArray)[gs.idxOf c]? = some _
      rw [List.getElem?_toArray]
      exact tau_at h hl
end Own

namespace Own
open PySem PySem.Spec PyProof.Rows L2 SX RZ
/-! ### the drawer -/
def RngV (H : Hp) (r l : Addr) (ns : List Int) (i b s c : Int) : Prop :=
  0 ≤ i ∧ H r = some (.lst [.ref l, .int i, .int b, .int s, .int c]) ∧ H l = some (.lst (ns.map V.int))
def RngL (H : Hp) (r l : Addr) : Prop := ∃ ns i b s c, RngV H r l ns i b s c
def Rng (H : Hp) (r : Addr) : Prop := ∃ l, RngL H r l
/-- all but r as before, and at r a drawer over the same cells -/
def Go (r : Addr) (H H' : Hp) : Prop :=
  (∀ b o, b ≠ r → H b = some o → H' b = some o) ∧ ∃ l, RngL H r l ∧ RngL H' r l

theorem ints_ne {a : List Int} {l : Addr} {xs : List V} : HO.lst (a.map V.int) ≠ HO.lst (V.ref l :: xs) := by
  intro h
  injection h with h
  cases a with
  | nil => cases h
  | cons x r =>
    injection h with h1 h2
    cases h1
theorem RngV.ne {H : Hp} {r l : Addr} {ns : List Int} {i b s c : Int} (h : RngV H r l ns i b s c) : l ≠ r :=
  ne_of h.2.2 h.2.1 ints_ne
theorem RngV.put {H : Hp} {r l : Addr} {ns : List Int} {i b s c i' b' s' c' : Int}
    (h : RngV H r l ns i b s c) (hi : 0 ≤ i') :
    RngV (upd H r (.lst [.ref l, .int i', .int b', .int s', .int c'])) r l ns i' b' s' c' :=
  ⟨hi, upd_same, by rw [upd_ne h.ne]; exact h.2.2⟩
theorem RngL.inj {r l l' : Addr} {H : Hp} (a : RngL H r l) (b : RngL H r l') : l = l' := by
  obtain ⟨ns, i, b', s, c, R⟩ := a
  obtain ⟨ns', i', b'', s', c', R'⟩ := b
  have e := R.2.1.symm.trans R'.2.1
  injection e with e
  injection e with e
  injection e with e1 e2
  injection e1
theorem RngL.same {r l : Addr} {H H' : Hp} (h : RngL H r l) (s : Same H H') : RngL H' r l := by
  obtain ⟨ns, i, b, z, c, R⟩ := h
  exact ⟨ns, i, b, z, c, R.1, s _ _ R.2.1, s _ _ R.2.2⟩
theorem Rng.same {r : Addr} {H H' : Hp} (h : Rng H r) (s : Same H H') : Rng H' r := let ⟨l, h⟩ := h; ⟨l, h.same s⟩
theorem Go.rng {r : Addr} {H H' : Hp} (g : Go r H H') : Rng H' r := let ⟨l, _, h⟩ := g.2; ⟨l, h⟩
theorem Go.rng0 {r : Addr} {H H' : Hp} (g : Go r H H') : Rng H r := let ⟨l, h, _⟩ := g.2; ⟨l, h⟩
theorem Go.trans {r : Addr} {H H1 H2 : Hp} (a : Go r H H1) (b : Go r H1 H2) : Go r H H2 := by
  obtain ⟨a1, l, a2, a3⟩ := a
  obtain ⟨b1, l', b2, b3⟩ := b
  have e := a3.inj b2
  subst e
  exact ⟨fun x o nx e => b1 x o nx (a1 x o nx e), l, a2, b3⟩
theorem Go.refl {r : Addr} {H : Hp} (h : Rng H r) : Go r H H := let ⟨l, h⟩ := h; ⟨fun _ _ _ e => e, l, h, h⟩
theorem Go.of {r : Addr} {H H' : Hp} (h : Rng H r) (s : Same H H') : Go r H H' :=
  let ⟨l, h⟩ := h; ⟨fun _ _ _ e => s _ _ e, l, h, h.same s⟩
theorem Go.same {r : Addr} {H H1 H2 : Hp} (a : Go r H H1) (s : Same H1 H2) : Go r H H2 := a.trans (Go.of a.rng s)
theorem Go.after {r : Addr} {H H1 H2 : Hp} (h : Rng H r) (s : Same H H1) (a : Go r H1 H2) : Go r H H2 := (Go.of h s).trans a
theorem RngL.ex {r l : Addr} {H : Hp} (h : RngL H r l) : (∃ xs, H r = some (.lst xs)) ∧ ∃ xs, H l = some (.lst xs) := by
  obtain ⟨ns, i, b, s, c, R⟩ := h
  exact ⟨⟨_, R.2.1⟩, ⟨_, R.2.2⟩⟩
theorem Rng.ex {r : Addr} {H : Hp} (h : Rng H r) : ∃ xs, H r = some (.lst xs) := let ⟨_, h⟩ := h; h.ex.1
/-- a list made on the way, new at H, is written -/
theorem Go.put {r D : Addr} {H H' : Hp} {o : HO} (g : Go r H H') (nD : H D = none) : Go r H (upd H' D o) := by
  obtain ⟨g1, l, h, h'⟩ := g
  obtain ⟨⟨x1, e1⟩, ⟨x2, e2⟩⟩ := h.ex
  have n1 : r ≠ D := ne_of_none e1 nD
  have n2 : l ≠ D := ne_of_none e2 nD
  refine ⟨fun b u nb e => ?_, l, h, ?_⟩
  · rw [upd_ne (ne_of_none e nD)]
    exact g1 b u nb e
  · obtain ⟨ns, i, b, z, c, R⟩ := h'
    exact ⟨ns, i, b, z, c, R.1, by rw [upd_ne n1]; exact R.2.1, by rw [upd_ne n2]; exact R.2.2⟩
theorem same_new {H : Hp} {p : Addr} {o : HO} (h : H p = none) : Same H (upd H p o) := fun b x e => by
  rw [upd_ne (ne_of_none e h)]
  exact e
theorem Go.seq {K : PySem.W.Frag} {r a : Addr} {H H' : Hp} {xs : List V} (g : Go r H H') (ne : a ≠ r) (h : SqL K H a xs) : SqL K H' a xs := by
  rcases h with (h | ⟨o, h⟩) | h
  · exact .inl (.inl (g.1 _ _ ne h))
  · exact .inl (.inr ⟨o, g.1 _ _ ne h⟩)
  · exact .inr h
theorem small {n : Nat} (h : n ≤ 1000) : n ≤ sizeLine := Nat.le_of_lt (small1000 h)
/-! ### equal data -/
def Flat : V → Prop
  | .non => True
  | .bl _ => True
  | .int _ => True
  | .str _ => True
  | _ => False
/-- two values that are the same data, less than n deep -/
def Eqd (K : PySem.W.Frag) (H : Hp) : Nat → V → V → Prop
  | 0, _, _ => False
  | n + 1, x, y => (x = y ∧ Flat x) ∨ ∃ a b xs ys, x = .ref a ∧ y = .ref b ∧
      ((SqL K H a xs ∧ SqL K H b ys) ∨ (SqT K H a xs ∧ SqT K H b ys)) ∧ xs.length ≤ 1000 ∧ xs.length = ys.length ∧
      ∀ (i : Nat) u v, xs[i]? = some u → ys[i]? = some v → Eqd K H n u v
theorem same_t {K : PySem.W.Frag} {H H' : Hp} {a : Addr} {xs : List V} (e : Same H H') (h : SqT K H a xs) : SqT K H' a xs := by
  rcases h with (h | ⟨o, h⟩) | h
  · exact .inl (.inl (e _ _ h))
  · exact .inl (.inr ⟨o, e _ _ h⟩)
  · exact .inr h
theorem Eqd.same {K : PySem.W.Frag} {H H' : Hp} (s : Same H H') : ∀ {n : Nat} {x y : V}, Eqd K H n x y → Eqd K H' n x y
  | 0, _, _, h => h.elim
  | n + 1, x, y, h => by
    rcases h with h | ⟨a, b, xs, ys, e1, e2, h, l1, l2, k⟩
    · exact Or.inl h
    · refine Or.inr ⟨a, b, xs, ys, e1, e2, ?_, l1, l2, fun i u v hu hv => (k i u v hu hv).same s⟩
      rcases h with ⟨h1, h2⟩ | ⟨h1, h2⟩
      · exact .inl ⟨s.seq h1, s.seq h2⟩
      · exact .inr ⟨same_t s h1, same_t s h2⟩
theorem Eqd.refl {K : PySem.W.Frag} {H : Hp} {n : Nat} {x : V} (h : Flat x) : Eqd K H (n + 1) x x := Or.inl ⟨rfl, h⟩
/-- two lists of flat things -/
theorem Eqd.lst {K : PySem.W.Frag} {H : Hp} {n : Nat} {a b : Addr} {xs : List V} (h1 : H a = some (.lst xs)) (h2 : H b = some (.lst xs)) (hl : xs.length ≤ 1000) (hf : ∀ x ∈ xs, Flat x) :
    Eqd K H (n + 2) (.ref a) (.ref b) := by
  refine Or.inr ⟨a, b, xs, xs, rfl, rfl, .inl ⟨.inl (.inl h1), .inl (.inl h2)⟩, hl, rfl, fun i u v hu hv => ?_⟩
  have e := Option.some.inj (hu.symm.trans hv)
  subst e
  exact Eqd.refl (hf _ (List.mem_of_getElem? hu))
theorem tyL {K : PySem.W.Frag} {H : Hp} {a : Addr} {xs : List V} (h : SqL K H a xs) : TyX K H (.ref a) (.type "list") := by
  rcases h with (h | ⟨o, h⟩) | ⟨o, its, n, hk, hc, _⟩
  · exact .base (.lst h)
  · exact .base (.frz h)
  · exact .kList hk hc
theorem tyT {K : PySem.W.Frag} {H : Hp} {a : Addr} {xs : List V} (h : SqT K H a xs) : TyX K H (.ref a) (.type "tuple") := by
  rcases h with (h | ⟨o, h⟩) | ⟨o, its, n, hk, hc, _⟩
  · exact .base (.tup h)
  · exact .fTuple h
  · exact .kTuple hk hc
theorem walk_zT {K : PySem.W.Frag} {a b : Addr} {xs ys : List V} {n : Nat} (hn : n = min xs.length ys.length) :
    Walk (ItzT K a b) n (fun H => SqT K H a xs ∧ SqT K H b ys) (YPair (fun i => xs[i]?) (fun i => ys[i]?)) := by
  refine ⟨fun i H hi q => ?_, fun H q => ⟨xs, ys, q.1, q.2, by omega⟩, ?_⟩
  · obtain ⟨lx, ly⟩ := Nat.lt_min.mp (hn ▸ hi)
    exact ⟨xs, ys, _, _, q.1, q.2, List.getElem?_eq_getElem lx, List.getElem?_eq_getElem ly⟩
  · rintro i H v H' _ ⟨qa, qb⟩ ⟨T, x, z, e1, e2, e3, a, b⟩
    exact ⟨T, x, z, e1, e2, e3, a _ qa, b _ qb⟩

theorem kit2 {K : PySem.W.Frag} {t a b : String} {r s : Bool} (h1 : kitB t a = some r) (h2 : kitB t b = some s) :
    PySem.W.kitAny K (.type t) [.type a, .type b] = some (r || s) := by
  refine kitAny_cons (kit_ty h1) (fun e => ?_) (fun e => by rw [e]; rfl)
  subst e
  refine kitAny_cons (kit_ty h2) (fun e => ?_) (fun e => by rw [e]; rfl)
  subst e
  rfl
theorem flat_ty {K : PySem.W.Frag} {x : V} (h : Flat x) : ∃ t, (∀ H, TyX K H x (.type t)) ∧ kitB t "list" = some false ∧ kitB t "tuple" = some false ∧
    (∃ b, kitB t "bool" = some b) ∧ (∃ b, kitB t "int" = some b) ∧ ∃ b, kitB t "str" = some b := by
  cases x with
  | non => exact ⟨"NoneType", fun _ => .base .non, by decide +kernel, by decide +kernel, ⟨false, by decide +kernel⟩, ⟨false, by decide +kernel⟩, ⟨false, by decide +kernel⟩⟩
  | bl b => exact ⟨"bool", fun _ => .base (.bl b), by decide +kernel, by decide +kernel, ⟨true, by decide +kernel⟩, ⟨true, by decide +kernel⟩, ⟨false, by decide +kernel⟩⟩
  | int i => exact ⟨"int", fun _ => .base (.int i), by decide +kernel, by decide +kernel, ⟨false, by decide +kernel⟩, ⟨true, by decide +kernel⟩, ⟨false, by decide +kernel⟩⟩
  | str z => exact ⟨"str", fun _ => .base (.str z), by decide +kernel, by decide +kernel, ⟨false, by decide +kernel⟩, ⟨false, by decide +kernel⟩, ⟨true, by decide +kernel⟩⟩
  | _ => exact h.elim
def spDraws (K : PySem.W.Frag) : Sp := fun vs H Q _ => ∃ (a : Addr) (ns : List Int), vs = [.ref a] ∧
  SqL K H a (ns.map V.int) ∧ ∀ H' r, Same H H' → H r = none → Rng H' r → Q (.ref r) H'
def spDraw : Sp := fun vs H Q _ => ∃ (r : Addr) (n : Int), vs = [.ref r, .int n] ∧ 0 < n ∧ n < 1000000 ∧
  Rng H r ∧ ∀ H' k, Go r H H' → 0 ≤ k → k < n → Q (.int k) H'
def spPick (K : PySem.W.Frag) : Sp := fun vs H Q _ => ∃ (r : Addr) (x : V), vs = [.ref r, x] ∧ Rng H r ∧
  ((∃ a xs, x = .ref a ∧ a ≠ r ∧ SqL K H a xs ∧ 0 < xs.length ∧ xs.length ≤ 1000 ∧ ∀ H' v, Go r H H' → v ∈ xs → Q v H') ∨
   (∃ cs : List Nat, x = .str (S cs) ∧ 0 < cs.length ∧ cs.length ≤ 1000 ∧ ∀ H' c, Go r H H' → c ∈ cs → Q (.str (S [c])) H'))
def spLetters : Sp := fun vs H Q _ => ∃ (r : Addr) (m : Int), vs = [.ref r, .int m] ∧ 2 ≤ m ∧ Rng H r ∧
  ∀ H' gs, Go r H H' → Good gs → (gs.length : Int) ≤ m → Q (.str (S gs)) H'
def spTurn : Sp := fun vs H Q _ => ∃ (r : Addr) (gs : List Nat), vs = [.ref r, .str (S gs)] ∧ gs.length ≤ 1000 ∧ Rng H r ∧
  ∀ H' t, Go r H H' → t.Perm gs → Q (.str (S t)) H'
def spWord : Sp := fun vs H Q _ => ∃ (r : Addr) (gs : List Nat) (m : Int), vs = [.ref r, .str (S gs), .int m] ∧
  0 < gs.length ∧ gs.length ≤ 1000 ∧ 0 ≤ m ∧ m ≤ 1000 ∧ Rng H r ∧
  ∀ H' xs, Go r H H' → (∀ c ∈ xs, c ∈ gs) → (xs.length : Int) ≤ m → Q (.str (S xs)) H'
/-- a text is turned -/
def spTd : Sp := fun vs H Q _ => ∃ gs t xs : List Nat, vs = [.str (S gs), .str (S t), .str (S xs)] ∧ gs.Nodup ∧ gs.length ≤ 1000 ∧
  t.length = gs.length ∧ xs.length ≤ 1000 ∧ (∀ c ∈ xs, c ∈ gs) ∧ ∀ H', Same H H' → Q (.str (S (xs.map (tau gs t)))) H'
/-- one turn after the other: the second and the third changed about -/
def spAf : Sp := fun vs H Q E => ∃ x y z : V, vs = [x, y, z] ∧ spTd [x, z, y] H Q E
/-- a turn undone -/
def spUn : Sp := fun vs H Q _ => ∃ gs t : List Nat, vs = [.str (S gs), .str (S t)] ∧ gs.length ≤ 1000 ∧ t.length = gs.length ∧ (∀ c ∈ gs, c ∈ t) ∧
  ∀ H', Same H H' → Q (.str (S (und gs t))) H'
def spCk : Sp := fun vs H Q _ => ∃ gs xs : List Nat, vs = [.str (S gs), .str (S xs)] ∧ (∀ c ∈ xs, c ∈ gs) ∧ ∀ H', Same H H' → Q .non H'
def spOrd : Sp := fun vs H Q _ => ∃ (gs t : List Nat) (J : Nat), vs = [.str (S gs), .str (S t)] ∧ gs.Nodup ∧ gs.length ≤ 1000 ∧ t.Perm gs ∧
  it gs t J = gs ∧ (∀ k, k < J → it gs t k ≠ gs) ∧ ∀ H', Same H H' → Q (.int ((J : Int) + 1)) H'
def spSm (K : PySem.W.Frag) (n : Nat) : Sp := fun vs H Q _ => ∃ x y, vs = [x, y] ∧ Eqd K H n x y ∧ ∀ H', Same H H' → Q (.bl true) H'
structure SameT (mg : Str → Option Value) : Prop where
  isi : mg "isinstance" = none
  list : mg "list" = none
  tuple : mg "tuple" = none
  len : mg "len" = none
  all : mg "all" = none
  zip : mg "zip" = none
  bool : mg "bool" = none
  int : mg "int" = none
  str : mg "str" = none
/-! ### calls in short -/
structure Cl (P : Program) (w : World) (K : PySem.W.Frag) (mg : Str → Option Value) (base : Heap) (x : Str) (k : Nat) (ps : List Str) (sp : Sp) (f : Addr) (fd : FuncData) : Prop where
  ok : FnOk P w K mg base CX0 k f fd ps sp
  gl : mg x = some (.ref f)
  kp : PySem.W.keepIn K (.ref f) = true
  bd : Binds K fd ps []
section
variable {X : Cx} {k j : Nat} {f : Addr} {fd : FuncData} {ps ks : List Str} {sp : Sp} {x : Str} {p pos : Pos} {e : Expr} {es : List Expr} {kws : List Keyword} {t tk : TA}
theorem pe_cl (C : Cl X.prog X.w X.K X.mg X.base x k ps sp f fd) (hr : Room j X.A) (hk : k ≤ j) (hg : Gl X x) (ha : PA X (e :: es) t)
    (hdb : (x == ("__debug__" : Str)) = false := by decide) (he : starEach (e :: es) X.env = (false, eval e X.env) :: starEach es X.env := by rfl)
    (hpl : (backTo pos (starEach es X.env)).any (·.1) = false := by rfl) :
    PE X (.Call (.Name x p) (e :: es) [] pos) (tCall sp [] E0 t) :=
  pe_call C.ok (hr.mono hk) hg C.gl C.kp C.bd .nil pass0 ha hdb he hpl
/-- f(k = v, ..) -/
theorem pe_kw {g : List Value → List Value → List Value} {gV : List V → List V → List V}
    (C : Cl X.prog X.w X.K X.mg X.base x k ps sp f fd) (hr : Room j X.A) (hk : k ≤ j) (hg : Gl X x)
    (hb : KBinds X.K fd ps ks g gV) (hkw : PK X kws tk)
    (hall : (backToKw pos (keywordEach kws X.env)).all (·.1.isSome) = true := by rfl)
    (hks : (backToKw pos (keywordEach kws X.env)).filterMap (·.1) = ks := by rfl)
    (hdb : (x == ("__debug__" : Str)) = false := by decide)
    (hpl : ((backTo pos (starEach [] X.env)).any (·.1) || (backToKw pos (keywordEach kws X.env)).any (·.1.isNone)) = false := by rfl) :
    PE X (.Call (.Name x p) [] kws pos) (tCallK sp gV E0 tNil tk) := by
  refine ⟨fun pins s σ H Q I h => ?_⟩
  refine wpAny_Call_Name_kw (ld_glob I hg C.gl ?_ hdb)
  refine PySem.W.callWith_KW0 (h₀ := X.base) I.ok.mod.kin C.kp hall ?_ hpl
  refine thn (hkw.run pos pins s σ H _ I h) fun ws s2 ⟨zs, H2, I2, rz, q2⟩ => ⟨I2.kIn, ?_⟩
  rw [hks]
  exact run_fnk (us := []) (vs := []) C.ok (hr.mono hk) hb pass0 I2 .nil rz q2
end
/-- three keywords, from the last to the first; two -/
def rev3 {α : Type} : List α → List α → List α
  | [], [a, b, c] => [c, b, a]
  | _, _ => []
def rev2 {α : Type} : List α → List α → List α
  | [], [a, b] => [b, a]
  | _, _ => []
theorem rev3_rel {vs : List V} {us : List Value} {zs : List V} {ws : List Value} (r : Vals vs us) (z : Vals zs ws) : Vals (rev3 vs zs) (rev3 us ws) := by
  cases r with
  | cons _ _ => exact .nil
  | nil =>
    cases z with
    | nil => exact .nil
    | cons a z =>
      cases z with
      | nil => exact .nil
      | cons b z =>
        cases z with
        | nil => exact .nil
        | cons c z =>
          cases z with
          | nil => exact .cons c (.cons b (.cons a .nil))
          | cons _ _ => exact .nil
theorem rev2_rel {vs : List V} {us : List Value} {zs : List V} {ws : List Value} (r : Vals vs us) (z : Vals zs ws) : Vals (rev2 vs zs) (rev2 us ws) := by
  cases r with
  | cons _ _ => exact .nil
  | nil =>
    cases z with
    | nil => exact .nil
    | cons a z =>
      cases z with
      | nil => exact .nil
      | cons b z =>
        cases z with
        | nil => exact .cons b (.cons a .nil)
        | cons _ _ => exact .nil
end Own

namespace Own
open PySem PySem.Spec PyProof.Rows L2 SX
/-! ### what turns make -/
inductive InC (gs : List Nat) (ts : List (List Nat)) : List Nat → Prop
  | one : InC gs ts gs
  | step {x t : List Nat} : InC gs ts x → t ∈ ts → InC gs ts (x.map (tau gs t))
theorem map_tau {gs t : List Nat} (nd : gs.Nodup) (hl : t.length = gs.length) : gs.map (tau gs t) = t := by
  refine List.ext_getElem? fun i => ?_
  rw [List.getElem?_map]
  by_cases h : i < gs.length
  · have h2 : i < t.length := by omega
    rw [List.getElem?_eq_getElem h, List.getElem?_eq_getElem h2]
    show some (t.getD (gs.idxOf gs[i]) 0) = some t[i]
    rw [idx_get nd (List.getElem?_eq_getElem h), List.getD_eq_getElem?_getD, List.getElem?_eq_getElem h2]
    rfl
  · rw [List.getElem?_eq_none (by omega), List.getElem?_eq_none (by omega)]
    rfl
theorem mul_perm {gs x t : List Nat} (nd : gs.Nodup) (hx : x.Perm gs) (ht : t.Perm gs) : (x.map (tau gs t)).Perm gs := by
  refine (hx.map _).trans ?_
  rw [map_tau nd ht.length_eq]
  exact ht
theorem InC.perm {gs : List Nat} {ts : List (List Nat)} (nd : gs.Nodup) (hts : ∀ t ∈ ts, t.Perm gs) {x : List Nat} (h : InC gs ts x) : x.Perm gs := by
  induction h with
  | one => exact List.Perm.refl _
  | step _ ht ih => exact mul_perm nd ih (hts _ ht)
theorem InC.mul {gs : List Nat} {ts : List (List Nat)} (nd : gs.Nodup) (hts : ∀ t ∈ ts, t.Perm gs) {x y : List Nat} (hx : InC gs ts x) (hy : InC gs ts y) :
    InC gs ts (x.map (tau gs y)) := by
  have px := hx.perm nd hts
  induction hy with
  | one =>
    have e : x.map (tau gs gs) = x := (List.map_congr_left fun c hc => tau_self (px.mem_iff.mp hc)).trans (List.map_id x)
    rw [e]
    exact hx
  | step hy' ht ih =>
    rename_i y' t
    have py := hy'.perm nd hts
    have e : x.map (tau gs (y'.map (tau gs t))) = (x.map (tau gs y')).map (tau gs t) := by
      rw [List.map_map]
      exact List.map_congr_left fun c hc => tau_map _ (px.mem_iff.mp hc) py.length_eq
    rw [e]
    exact InC.step ih ht
theorem InC.it {gs : List Nat} {ts : List (List Nat)} (nd : gs.Nodup) (hts : ∀ t ∈ ts, t.Perm gs) {x : List Nat} (hx : InC gs ts x) : ∀ j, InC gs ts (it gs x j)
  | 0 => hx
  | j + 1 => (InC.it nd hts hx j).mul nd hts hx
theorem InC.und {gs : List Nat} {ts : List (List Nat)} (nd : gs.Nodup) (h4 : gs.length ≤ 4) (hts : ∀ t ∈ ts, t.Perm gs) {x : List Nat} (hx : InC gs ts x) : InC gs ts (und gs x) := by
  have px := hx.perm nd hts
  obtain ⟨J, _, eJ⟩ := ord_ex nd h4 px
  cases J with
  | zero =>
    have e : x = gs := eJ
    subst e
    have e2 : Own.und x x = x := (List.map_congr_left fun c hc => tau_self hc).trans (List.map_id x)
    rw [e2]
    exact hx
  | succ J =>
    have e1 : (Own.it gs x J).map (tau gs x) = gs := eJ
    have e2 : Own.und gs x = Own.it gs x J := by
      show gs.map (tau x gs) = _
      conv => lhs; arg 2; rw [← e1]
      rw [List.map_map]
      refine (List.map_congr_left fun c hc => ?_).trans (List.map_id _)
      exact tau_back (px.nodup_iff.mpr nd) px.length_eq ((it_mem px J).2 c hc)
    rw [e2]
    exact InC.it nd hts hx J
theorem len_sub {α : Type} [DecidableEq α] : ∀ (l m : List α), l.Nodup → (∀ a ∈ l, a ∈ m) → l.length ≤ m.length
  | [], m, _, _ => Nat.zero_le _
  | a :: r, m, nd, h => by
    have nd2 := List.nodup_cons.mp nd
    have ha := h a (List.mem_cons_self ..)
    have ih := len_sub r (m.erase a) nd2.2 fun b hb =>
      (List.mem_erase_of_ne (fun e : b = a => nd2.1 (by rw [← e]; exact hb))).mpr (h b (List.mem_cons_of_mem _ hb))
    have hl := List.length_erase_of_mem ha
    have hp : 0 < m.length := List.length_pos_of_mem ha
    rw [List.length_cons]
    omega
theorem few : ∀ n ∈ List.range 5, ((lists n n).filter fun p => decide p.Nodup).length ≤ 24 := by decide +kernel
theorem perms_few {gs : List Nat} (nd : gs.Nodup) (h4 : gs.length ≤ 4) {l : List (List Nat)} (ndl : l.Nodup) (hl : ∀ x ∈ l, x.Perm gs) : l.length ≤ 24 := by
  have back : ∀ x ∈ l, (x.map gs.idxOf).map (fun i => gs.getD i 0) = x := fun x hx => by
    rw [List.map_map]
    refine (List.map_congr_left fun c hc => ?_).trans (List.map_id x)
    exact tau_self ((hl x hx).mem_iff.mp hc)
  have h1 : (l.map fun x => x.map gs.idxOf).Nodup := by
    refine List.pairwise_map.mpr (ndl.imp_of_mem fun {a b} ha hb hne e => hne ?_)
    rw [← back a ha, ← back b hb, e]
  have h2 := len_sub _ ((lists gs.length gs.length).filter fun p => decide p.Nodup) h1 fun p hp => by
    obtain ⟨x, hx, rfl⟩ := List.mem_map.mp hp
    have px := hl x hx
    have ll : (x.map gs.idxOf).length = gs.length := by rw [List.length_map, px.length_eq]
    have m := mem_lists (n := gs.length) (x.map gs.idxOf) fun i hi => by
      obtain ⟨c, hc, rfl⟩ := List.mem_map.mp hi
      exact List.idxOf_lt_length_of_mem (px.mem_iff.mp hc)
    rw [ll] at m
    refine List.mem_filter.mpr ⟨m, decide_eq_true ?_⟩
    have ndx : x.Nodup := px.nodup_iff.mpr nd
    have h : ((x.map gs.idxOf).map fun i => gs.getD i 0).Nodup := by rw [back x hx]; exact ndx
    exact (List.pairwise_map.mp h).imp fun hne e => hne (congrArg (fun i => gs.getD i 0) e)
  rw [List.length_map] at h2
  exact Nat.le_trans h2 (few gs.length (List.mem_range.mpr (by omega)))
def Closed (gs : List Nat) (ts fs : List (List Nat)) : Prop := ∀ x ∈ fs, ∀ t ∈ ts, x.map (tau gs t) ∈ fs
theorem InC.sub {gs : List Nat} {ts fs : List (List Nat)} (h0 : gs ∈ fs) (hc : Closed gs ts fs) {x : List Nat} (h : InC gs ts x) : x ∈ fs := by
  induction h with
  | one => exact h0
  | step _ ht ih => exact hc _ ih _ ht

/-! ### sorted -/
theorem rising_pw : ∀ (l : List (List Nat)) (p : List Nat), risingS (S p) (l.map S) = true → (p :: l).Pairwise (fun a b => ¬ b < a)
  | [], p, _ => List.pairwise_singleton ..
  | x :: r, p, h => by
    have h' : (!ltCps x p && risingS (S x) (r.map S)) = true := h
    rw [Bool.and_eq_true, Bool.not_eq_true', ltCps_eq, decide_eq_false_iff_not] at h'
    have ih := rising_pw r x h'.2
    refine List.pairwise_cons.mpr ⟨fun y hy => ?_, ih⟩
    rcases List.mem_cons.mp hy with e | hy
    · rw [e]; exact h'.1
    · have h2 : ¬ y < x := (List.pairwise_cons.mp ih).1 y hy
      exact fun lt => absurd (List.le_trans (List.not_lt.mp h'.1) (List.not_lt.mp h2)) (List.not_le.mpr lt)
theorem sorted_pw : ∀ (l : List (List Nat)), sortedS (l.map S) = true → l.Pairwise (fun a b => ¬ b < a)
  | [], _ => List.Pairwise.nil
  | x :: r, h => rising_pw r x h
theorem sorted_one : ∀ (l m : List (List Nat)), l.Pairwise (fun a b => ¬ b < a) → m.Pairwise (fun a b => ¬ b < a) → l.Nodup → m.Nodup → (∀ x, x ∈ l ↔ x ∈ m) → l = m
  | [], [], _, _, _, _, _ => rfl
  | [], y :: s, _, _, _, _, h => by have := (h y).mpr (List.mem_cons_self ..); simp at this
  | x :: r, [], _, _, _, _, h => by have := (h x).mp (List.mem_cons_self ..); simp at this
  | x :: r, y :: s, p1, p2, n1, n2, h => by
    have q1 := List.pairwise_cons.mp p1
    have q2 := List.pairwise_cons.mp p2
    have m1 := List.nodup_cons.mp n1
    have m2 := List.nodup_cons.mp n2
    have e : x = y := by
      have hx := (h x).mp (List.mem_cons_self ..)
      have hy := (h y).mpr (List.mem_cons_self ..)
      rcases List.mem_cons.mp hx with e | hx
      · exact e
      · rcases List.mem_cons.mp hy with e | hy
        · exact e.symm
        · exact List.le_antisymm (List.not_lt.mp (q1.1 y hy)) (List.not_lt.mp (q2.1 x hx))
    subst e
    have ih := sorted_one r s q1.2 q2.2 m1.2 m2.2 fun z => by
      constructor
      · intro hz
        rcases List.mem_cons.mp ((h z).mp (List.mem_cons_of_mem _ hz)) with e | e
        · rw [e] at hz; exact absurd hz m1.1
        · exact e
      · intro hz
        rcases List.mem_cons.mp ((h z).mpr (List.mem_cons_of_mem _ hz)) with e | e
        · rw [e] at hz; exact absurd hz m2.1
        · exact e
    rw [ih]
/-- the sorted list of what is made -/
structure Clo (gs : List Nat) (ts cs : List (List Nat)) : Prop where
  nd : cs.Nodup
  mem : ∀ x, x ∈ cs ↔ InC gs ts x
  srt : sortedS (cs.map S) = true
theorem Clo.one {gs : List Nat} {ts cs ds : List (List Nat)} (a : Clo gs ts cs) (b : Clo gs ts ds) : cs = ds :=
  sorted_one cs ds (sorted_pw cs a.srt) (sorted_pw ds b.srt) a.nd b.nd fun x => (a.mem x).trans (b.mem x).symm
theorem map_S_inj : ∀ {a b : List (List Nat)}, a.map S = b.map S → a = b
  | [], [], _ => rfl
  | [], _ :: _, h => by cases h
  | _ :: _, [], h => by cases h
  | x :: r, y :: s, h => by
    have h' : S x :: r.map S = S y :: s.map S := h
    injection h' with h1 h2
    rw [S_inj h1, map_S_inj h2]
/-- a sorted list of texts that is a rearrangement -/
theorem Clo.of {gs : List Nat} {ts fs : List (List Nat)} {ys : List Str} (nd : fs.Nodup) (h0 : gs ∈ fs) (hc : Closed gs ts fs) (hi : ∀ x ∈ fs, InC gs ts x)
    (hp : ys.Perm (fs.map S)) (hs : sortedS ys = true) : ∃ cs, ys = cs.map S ∧ Clo gs ts cs := by
  have e : (ys.map fun y => y.cps.toList).map S = ys := by
    rw [List.map_map]
    exact (List.map_congr_left fun y _ => S_tl y).trans (List.map_id ys)
  have hp2 : (ys.map fun y => y.cps.toList).Perm fs := by
    have h := hp.map fun y => y.cps.toList
    rw [List.map_map] at h
    have e2 : fs.map ((fun y : Str => y.cps.toList) ∘ S) = fs := (List.map_congr_left fun _ _ => rfl).trans (List.map_id fs)
    rw [e2] at h
    exact h
  refine ⟨_, e.symm, hp2.nodup_iff.mpr nd, fun x => ⟨fun h => hi x (hp2.mem_iff.mp h), fun h => hp2.mem_iff.mpr (h.sub h0 hc)⟩, ?_⟩
  rw [e]
  exact hs
/-- in, among texts -/
theorem inV_S (x : List Nat) (fs : List (List Nat)) : inV (.str (S x)) (fs.map fun y => V.str (S y)) = decide (x ∈ fs) := by
  unfold inV
  rw [List.any_map, Bool.eq_iff_iff, List.any_eq_true, decide_eq_true_eq]
  constructor
  · rintro ⟨y, hy, e⟩
    have e' : (S y == S x) = true := e
    rw [S_beq_eq] at e'
    rw [← of_decide_eq_true e']
    exact hy
  · intro h
    refine ⟨x, h, ?_⟩
    show (S x == S x) = true
    exact beq_self_eq_true _
theorem flats (fs : List (List Nat)) : (fs.map fun y => V.str (S y)).all flatV = true := by
  rw [List.all_map, List.all_eq_true]
  intro y _
  rfl
end Own

namespace Own
open PySem PySem.Spec PyProof.Rows L2 SX
/-! ### try: .. except (A, B) as e: .. -/
theorem fly_keep {B h h' : Heap} {l : List Env} {a : Addr} {Z : Obj → Prop} (x : HandSPX.FlyingZ B l a Z h)
    (k : ∀ b o, h.get? b = some o → h'.get? b = some o) : HandSPX.FlyingZ B l a Z h' := by
  obtain ⟨x1, x2, x3, oe, vs, T, oT, ts, e1, e2, e3, e4, e5, e6, e7, e8, e9⟩ := x
  refine ⟨fun b o e => k b o (x1 b o e), x2, x3.of_keeps fun b o e _ => ⟨o, k b o e, rfl⟩, ?_⟩
  exact ⟨oe, vs, T, oT, ts, k _ _ e1, e2, e3, e4, e5, e6, k _ _ e7, e8, e9⟩

def dropN (i : Nat) (D : Ends) : Ends := { nx := fun σ' H' => D.nx (σ'.set i none) H', rt := D.rt, bk := fun σ' H' => D.bk (σ'.set i none) H', ct := fun σ' H' => D.ct (σ'.set i none) H' }
/-- what the clause «except (x1, x2) as n» wishes: the exception is one of them; slot i is n's -/
def wTwo (K : PySem.W.Frag) (c1 c2 : Value) (nn i : Nat) (ts : Addr → Value → Option Addr → TS) (D : Ends) : WX :=
  fun cls d σ H => PySem.W.exmAny K cls [c1, c2] = some true ∧ ∀ a, H a = none → σ.length = nn →
    ts a cls d (dropN i D) (σ.set i (some (.ref a))) H

/-- a caught exception at a as a clause looks at it, over the def's own state -/
structure Seen (X : Cx) (pins : List (Addr × Obj)) (B : Heap) (a : Addr) (cls : Value) (d : Option Addr) (σ : L2.St) (H : Hp) (s : Shared) : Prop where
  inv : Inv X pins σ H s
  fly : HandSPX.FlyingZ B (X.env :: X.outer) a (Zc cls d) s.heap
  free : H a = none
/-- the exception is none of the frames, so the suite may run with it pinned -/
theorem Seen.go {X : Cx} {pins : List (Addr × Obj)} {B : Heap} {a : Addr} {cls : Value} {d : Option Addr} {σ : L2.St} {H : Hp} {s : Shared}
    (g : Seen X pins B a cls d σ H s) (hf : X.env.frame = some X.env.locals) :
    ∃ oe, s.heap.get? a = some oe ∧ Zc cls d oe ∧ (∃ vs, oe.data = .fields vs) ∧ Inv (X.suite a ((a, oe) :: (X.pn ++ pins))) [] σ H s := by
  obtain ⟨oe, vs, e, hz, hd⟩ := g.fly.there
  have apart : ∀ v ∈ X.env :: X.outer, v.frame ≠ some a := fun v hv q => by
    obtain ⟨_, o', e', n⟩ := g.fly.2.2.1.mem (List.mem_filterMap.mpr ⟨v, hv, q⟩)
    cases e.symm.trans e'
    exact n _ hd
  refine ⟨oe, e, hz, ⟨vs, hd⟩, g.inv.suite e hd g.free (fun q => apart _ List.mem_cons_self (by rw [hf, q])) fun hm => ?_⟩
  obtain ⟨v, hv, q⟩ := List.mem_filterMap.mp hm
  exact apart v (List.mem_cons_of_mem _ hv) q

section
variable {X : Cx} {x1 x2 n : Str} {c1 c2 : Value} {i k : Nat} {body suite : List Stmt} {b0 : Stmt}
variable {p1 p2 pt pos pos' : Pos} {tb : WX → TS} {ts : Addr → Value → Option Addr → TS}
/-- (x1, x2) of two classes of the module, while an exception is handled -/
theorem two_classes {a : Addr} {pn : List (Addr × Obj)} {pins : List (Addr × Obj)} {σ : L2.St} {H : Hp} {s : Shared} {Q : Value → Shared → Prop} {E : Value → Shared → Prop}
    (I : Inv (X.suite a pn) pins σ H s) (g1 : Gl X x1) (m1 : X.mg x1 = some c1) (d1 : (x1 == ("__debug__" : Str)) = false)
    (g2 : Gl X x2) (m2 : X.mg x2 = some c2) (d2 : (x2 == ("__debug__" : Str)) = false)
    (q : Q (.ref s.heap.objs.size) { s with heap := s.heap.push { cls := .type "tuple", data := .seq [c1, c2].toArray } }) :
    wpAny (model X.prog X.w) (X.A.mark (some (.ref a))) (eval (.Tuple [.Name x1 p1, .Name x2 p2] k pt) X.env) Q E s :=
  wpAny_Tuple_spliced (Calls.spliced_cons (x := eval (.Name x1 p1) X.env) (rest := backTo pt (starEach [.Name x2 p2] X.env)) (ld_glob (X := X.suite a pn) I g1 m1
    (Calls.spliced_cons (x := eval (.Name x2 p2) X.env) (rest := backTo pt (starEach [] X.env)) (ld_glob (X := X.suite a pn) I g2 m2
      (Calls.spliced_nil ⟨by show 2 ≤ sizeLine; decide, q⟩) d2)) d1))
/-- the suite's end: n is gone, and what was pinned is the def's own again -/
theorem ends_two {a : Addr} {pins : List (Addr × Obj)} {oe : Obj} {D : Ends} {fl : Flow} {s : Shared} {E : Value → Shared → Prop}
    (ok : X.Ok) (hN : X.N.Nodup) (hi : X.N[i]? = some n) (hln : X.env.kindOf n = some .local)
    (h : SP (X.suite a ((a, oe) :: (X.pn ++ pins))) [] (dropN i D) fl s) :
    wpAny (model X.prog X.w) X.A (do bindName X.env n .none; unbindBehindTheSuite X.env n pos') (fun _ s' => SP X pins D fl s') E s := by
  cases fl with
  | ret u =>
    obtain ⟨v, σ', H', S, r, q⟩ := h
    exact gone_ok (S.unsuite ok) hN hi hln fun s' J => ⟨v, _, H', J, r, q⟩
  | _ =>
    obtain ⟨σ', H', S, q⟩ := h
    exact gone_ok (S.unsuite ok) hN hi hln fun s' J => ⟨_, H', J, q⟩
theorem ps_two (hs : X.stack = X.env :: X.outer) (hf : X.env.frame = some X.env.locals) (hN : X.N.Nodup)
    (hi : X.N[i]? = some n) (hln : X.env.kindOf n = some .local)
    (g1 : Gl X x1) (m1 : X.mg x1 = some c1) (d1 : (x1 == ("__debug__" : Str)) = false)
    (g2 : Gl X x2) (m2 : X.mg x2 = some c2) (d2 : (x2 == ("__debug__" : Str)) = false)
    (hb : ∀ (W : WX) (pn : List (Addr × Obj)) (xe : Value → Shared → Prop), Takes (X.tr pn xe) W →
      PassesOwn (model X.prog X.w) X.A X.env xe → PSs (X.tr pn xe) body (tb W))
    (hsu : ∀ (a : Addr) (oe : Obj) (cls : Value) (d : Option Addr) (pn : List (Addr × Obj)), Zc cls d oe →
      (∃ vs, oe.data = .fields vs) → PSs (X.suite a ((a, oe) :: pn)) (b0 :: suite) (ts a cls d)) :
    PS X (.Try body [.ExceptHandler (some (.Tuple [.Name x1 p1, .Name x2 p2] k pt)) (some n) (b0 :: suite) pos'] [] [] pos)
      (fun D σ H => tb (wTwo X.K c1 c2 X.N.length i ts D) D σ H) := by
  constructor
  intro pins s σ H D I h
  have ok := I.ok
  refine wpAny_Try_except (wpAny_mono ((hb (wTwo X.K c1 c2 X.N.length i ts D) (X.pn ++ pins) _ ?_ PassesOwn.looking).run [] s σ H D (I.toTry _) h) ?_ fun _ _ e => e)
  · rintro u s' ⟨a, B, sI, pins', σ', H', cls, d, rfl, J', nb, up, sky, na, os, ag, two, wish⟩
    have J := J'.ofTry (pins := pins) ok
    refine Sky.land Zc.steady (by rw [ok.frames, hs]) hf (by rw [← hs]; exact sky) fun h1 f1 u1 => ?_
    have seen1 : Seen X pins B a cls d σ' H' { s' with heap := h1 } := ⟨J.landed nb f1.1 (up.trans u1) os ag, f1, na⟩
    obtain ⟨o1, e1, z1, _, S1⟩ := seen1.go hf
    -- the tuple of the two classes lies behind all that was there
    have grow : ∀ b o, h1.get? b = some o → (h1.push { cls := .type "tuple", data := .seq [c1, c2].toArray }).get? b = some o :=
      fun _ _ e => Heap.get?_push_of_some _ e
    have there : (h1.push { cls := .type "tuple", data := .seq [c1, c2].toArray }).get? h1.objs.size =
        some { cls := .type "tuple", data := .seq [c1, c2].toArray } := Heap.get?_push_size _ rfl
    refine wpAny_handleBy_cons (codeAny_handlers_test (two_classes S1 g1 m1 d1 g2 m2 d2 ?_)) (fun q => nomatch q)
    refine (PySem.W.exm_tup2 (M := model X.prog X.w) (seen1.inv.kept (t' := s'.toks) grow).kIn
      (fun A Q E s k q => wpAny_typeOf_ref (k _ _ (grow _ _ e1)) (by rw [z1.1]; exact q)) there two).here
        (codeAny_handlers_suite_as (HandSPX.lands_againZ (fly_keep f1 grow) fun h2 f2 u2 => ?_))
    have seen2 : Seen X pins B a cls d σ' H' { s' with heap := h2 } :=
      ⟨J.landed nb f2.1 (((up.trans u1).trans (Heap.UpToSlots.of_keeps grow)).trans u2) os ag, f2, na⟩
    obtain ⟨o2, _, z2, v2, S2⟩ := seen2.go hf
    refine store_ok (X := X.suite a ((a, o2) :: (X.pn ++ pins))) (v := .ref a) S2 hN hi (.inl hln) rfl (fun s3 S3 => ?_) (.inr hln)
    exact wpAny_mono ((hsu a o2 cls d (X.pn ++ pins) z2 v2).run [] s3 _ H' _ S3 (wish a na J.len))
      (fun fl s4 hs4 => ends_two ok hN hi hln hs4) fun _ _ no => no.elim
  · intro fl s1 h1
    cases fl with
    | next => obtain ⟨σ', H', K', q⟩ := h1; exact wpAny_execs_nil ⟨σ', H', K'.ofTry ok, q⟩
    | ret u => obtain ⟨v, σ', H', K', r, q⟩ := h1; exact ⟨v, σ', H', K'.ofTry ok, r, q⟩
    | _ => obtain ⟨σ', H', K', q⟩ := h1; exact ⟨σ', H', K'.ofTry ok, q⟩
end
end Own

namespace Own
open PySem PySem.Spec PyProof.Rows L2 SX
/-- what is known of a caught exception: a its object, cls its class, d its dict -/
def tXg (K : PySem.W.Frag) (a : Addr) (cls : Value) (d : Option Addr) (f : Str) (te : TE) : TE := fun σ H Q => te σ H fun x H1 =>
  x = .ref a ∧ ∃ (C dd : Addr) (fs : List (Str × V)) (v : V), cls = .ref C ∧ XfC K C ∧ PySem.W.findIn K (.ref C) f = some none ∧
    d = some dd ∧ H1 dd = some (.xd fs) ∧ fs.lookup f = some v ∧ Q v H1
theorem pe_xg {X : Cx} {a : Addr} {oe : Obj} {cls : Value} {d : Option Addr} {e : Expr} {te : TE} {pos : Pos} {n : Str}
    (hp : (a, oe) ∈ X.pn) (hz : Zc cls d oe) (hf : ∃ vs, oe.data = .fields vs) (he : PE X e te)
    (hb : attributeBase e n X.env (eval e X.env) = eval e X.env := by rfl) :
    PE X (.Attribute e n pos) (tXg X.K a cls d n te) := by
  constructor
  intro pins s σ H Q I h
  refine attr_of hb (thn (he.run pins s σ H _ I h) ?_)
  rintro u s1 ⟨_, H1, I1, rx, rfl, C, dd, fs, v, rfl, T, none', rfl, lies, look, q⟩
  have eu : u = .ref a := rx
  subst eu
  obtain ⟨vs, hd⟩ := hf
  obtain ⟨m, ns, all⟩ := (show ObjOk X.prog X.w H1 s1.heap dd (.xd fs) from I1.hok dd _ lies)
  obtain ⟨od, od_at, od_look⟩ := lookIn_ns ns
  obtain ⟨u', mu, ru⟩ := RelO.some_of (o := m n) (v := v) (look ▸ all n)
  refine HandSPX.exc_get I1.kIn (C := C) (ox := oe) (od := some od) ?_ T.ga T.gg T.exC (PySem.W.findObj_own T.hdC none' rfl (by rw [od_look, mu])) (handed_of ru) ⟨v, H1, I1.tok _, ru, q⟩
  refine ⟨(I1.pin (a, oe) (List.mem_append_left _ hp)).1, hz.1, ?_, hz.2 ▸ od_at⟩
  rw [PySem.W.notCls, hd]

/-! ### a def called with the caught exception -/
abbrev SpX := Addr → Value → Option Addr → Sp
structure FnP (P : Program) (w : World) (K : PySem.W.Frag) (mg : Str → Option Value) (base : Heap) (k : Nat) (f : Addr) (fd : FuncData) (ps : List Str) (sp : SpX) : Prop where
  len : ∀ a cls d vs H Q E, sp a cls d vs H Q E → vs.length = ps.length
  run : ∀ (A : Around) (outer : List Env) (s : Shared) (H : Hp) (args : Args) (us : List Value) (vs : List V) (Q : VK) (a : Addr) (oe : Obj) (cls : Value) (d : Option Addr),
    L2H.RoomH k A → L2H.PinOk outer H s (a, oe) → Zc cls d oe → (∃ vs, oe.data = .fields vs) → Env0 P w K mg base A outer s H →
    BindsTo s fd args (ps.zip us) → Vals vs us → sp a cls d vs H Q E0 → codeAny (model P w) A (.call (.ref f) args) (CR CX0 outer P w H s Q E0) s

theorem fn_ofP {P : Program} {w : World} {K : PySem.W.Frag} {mg : Str → Option Value} {base : Heap} {k : Nat} {f : Addr} {x qual : Str} {st : Stmt} {fd : FuncData}
    {N ps : List Str} {sp : SpX} (F : Fun K x qual st f fd) (S : FnScope N ps (defScope st)) (len : ∀ a cls d vs H Q E, sp a cls d vs H Q E → vs.length = ps.length)
    (hbody : ∀ (cdv : Value) (A : Around) (outer : List Env) (s : Shared) (H : Hp) (vs : List V) (Q : VK) (a : Addr) (oe : Obj) (cls : Value) (d : Option Addr),
      Zc cls d oe → (∃ vs, oe.data = .fields vs) → L2H.RoomH k (A.deeper (envOfC qual (defScope st) s.heap.objs.size f cdv)) → sp a cls d vs H Q E0 →
      ∃ t, PSs (L2H.cxH CX0 P w K mg base N qual (defScope st) f cdv A outer s H E0 (a, oe)) (defBody st) t ∧ t { nx := fun _ H' => Q .non H', rt := Q } (L2.start N vs) H) :
    FnP P w K mg base (k + 1) f fd ps sp := by
  refine ⟨len, ?_⟩
  intro A outer s H args us vs Q a oe cls d room pin hz hf env bind rel asks
  obtain ⟨_, _, _, _, _, _, cdv, _, _, rfl, at_, code⟩ := F.ex
  have kept : ∀ b o, base.get? b = some o → s.heap.get? b = some o := fun b o e => (env.bs b o e).1
  have frag := env.mod.kin.keeps kept
  refine codeAny_call_function room.depth (frag _ _ at_) rfl S.co S.gen rfl (PySem.W.codeRec_of frag code) (bind _ _ _ _ (wpAny_newFunctionEnv_cells S.kind ?_ ?_))
  · rintro ⟨y, v⟩ hy
    exact (S.par y (List.of_mem_zip hy).1).imp id fun q => ⟨q, PySem.W.cellsFrom_some _ _ _ (.inl q)⟩
  · rintro _ rfl s1 begun
    obtain ⟨t, body, wish⟩ := hbody cdv A outer s H vs Q a oe cls d hz hf (room.deeper _) asks
    have I := L2H.inv_startH (CX := CX0) (E := E0) S pin env (len _ _ _ _ _ _ _ asks) rel begun
    refine ⟨(env.mod.nolimit.keeps kept).keeps begun.toInCall.keep, codeAny_func (wpAny_mono (body.run [] s1 (L2.start N vs) H _ I wish) ?_ fun _ _ no => no)⟩
    intro fl s' out
    rcases fl with _ | u | _ | _
    all_goals first
      | (obtain ⟨_, _, _, no⟩ := out; exact no.elim)
      | (obtain ⟨σ', H', J, q⟩ := out; exact ⟨V.non, H', J.os, J.bare, J.base, J.hok, rfl, q⟩)
      | (obtain ⟨v, σ', H', J, rv, q⟩ := out; exact ⟨v, H', J.os, J.bare, J.base, J.hok, rv, q⟩)

theorem pe_callP {X : Cx} {k : Nat} {f a : Addr} {oe : Obj} {cls : Value} {d : Option Addr} {fd : FuncData} {ps : List Str} {sp : SpX} {x : Str} {p pos : Pos} {e : Expr} {es : List Expr} {t : TA}
    (hp : (a, oe) ∈ X.pn) (hz : Zc cls d oe) (hf : ∃ vs, oe.data = .fields vs)
    (F : FnP X.prog X.w X.K X.mg X.base k f fd ps sp) (hr : L2H.RoomH k X.A) (hg : Gl X x) (hm : X.mg x = some (.ref f)) (hk : PySem.W.keepIn X.K (.ref f) = true) (hb : Binds X.K fd ps [])
    (ha : PA X (e :: es) t) (hdb : (x == ("__debug__" : Str)) = false := by decide)
    (he : starEach (e :: es) X.env = (false, eval e X.env) :: starEach es X.env := by rfl) (hpl : (backTo pos (starEach es X.env)).any (·.1) = false := by rfl) :
    PE X (.Call (.Name x p) (e :: es) [] pos) (fun σ H Q => t σ H fun vs H1 => sp a cls d vs H1 Q E0) := by
  constructor
  intro pins s σ H Q I h
  refine wpAny_Call_Name_kw (ld_glob I hg hm (PySem.W.callWith_K (h₀ := X.base) I.ok.mod.kin hk (thn (ha.run pos pins s σ H _ I h) ?_) he hpl) hdb)
  rintro us s1 ⟨vs, H1, I1, rel, asks⟩
  have bound : BindsTo s1 fd ⟨us, []⟩ (ps.zip us) := by
    have := hb s1 us I1.kIn (by rw [List.append_nil, ← rel.length]; exact F.len _ _ _ _ _ _ _ asks)
    rwa [List.append_nil] at this
  obtain ⟨lies, free, c1, c2, c3⟩ := I1.pin (a, oe) (List.mem_append_left _ hp)
  have pin : L2H.PinOk X.stack H1 s1 (a, oe) := ⟨lies, free, fun m => (List.mem_cons.mp (I1.stkSub _ m)).elim c1 c2, c3⟩
  refine ⟨I1.kIn, wpAny_call (codeAny_mono (F.run X.A X.stack s1 H1 ⟨us, []⟩ us vs Q a oe cls d hr pin hz hf I1.env0 bound rel asks) ?_)⟩
  rintro (er | (_ | u | _ | _)) s' out
  all_goals first | exact I1.after out | exact (show False from out).elim

/-! ### the fields of errors -/
/-- an error as it lies: its class, its dict, its code, and what _law_field gives of it -/
def ErrAt (K : PySem.W.Frag) (cls : Value) (d : Option Addr) (H : Hp) (code : Str) (v : V) : Prop :=
  ∃ (C dd : Addr) (fs : List (Str × V)), cls = .ref C ∧ d = some dd ∧ H dd = some (.xd fs) ∧ XfC K C ∧ PySem.W.findIn K (.ref C) "code" = some none ∧ fs.lookup ("code" : Str) = some (V.str code) ∧
    (((code = "UnknownLetter" ∨ code = "ParseError") ∧ PySem.W.findIn K (.ref C) "position" = some none ∧ fs.lookup ("position" : Str) = some v) ∨ ((code = "InvalidLetters" ∨ code = "LettersDiffer") ∧ v = .non))
def spFld (K : PySem.W.Frag) : SpX := fun a cls d vs H Q _ => ∃ code v, vs = [.ref a] ∧ ErrAt K cls d H code v ∧ ∀ H', Same H H' → Q v H'
end Own

namespace Own
open PySem PySem.Spec PyProof.Rows L2 SX
/-- C() of an error class with an own __init__ -/
theorem pmk0 {X : Cx} {CX : CXT} {x : Str} {C fI : Addr} {k : Nat} {fd : FuncData} {ps : List Str} {sp : Sp} {p pos : Pos} (T : OexC X.K C)
    (iC : PySem.W.findIn X.K (.ref C) "__init__" = some (some (.ref fI))) (tI : PySem.W.typeIn X.K (.ref fI) = some (.type "function"))
    (F1 : FnOk X.prog X.w X.K X.mg X.base CX k fI fd ps sp) (hr : Room (k + 1) X.A) (hb : Binds X.K fd ps []) (hx : Passes CX X (fun _ _ _ => False))
    (hg : Gl X x) (hm : X.mg x = some (.ref C)) (hdb : (x == ("__debug__" : Str)) = false := by decide) :
    PMk X (.Call (.Name x p) [] [] pos) (tMkO C sp [] tNil) := by
  rintro pins ⟨hp, g, dr, tk, os⟩ σ H Q I ⟨_, asks⟩
  obtain ⟨_, _, _, _, bm, _, _, _, _, _, _, _, _, _, _, cls, refs⟩ := T.cls
  -- the error lies right behind its empty tuple of arguments
  let a : Addr := hp.objs.size + 1
  let h2 := (hp.push (PySem.W.kdv_tup [])).push (PySem.HandSPX.excO C hp.objs.size)
  have young : hp.objs.size ≤ a := Nat.le_add_right _ _
  have wish := asks a (I.hok.fresh young)
  have stays : ∀ b o, hp.get? b = some o → h2.get? b = some o := fun b o e => by
    have e1 : (hp.push (PySem.W.kdv_tup [])).get? b = some o := Heap.get?_push_of_some _ e
    exact Heap.get?_push_of_some _ e1
  have lies : h2.get? a = some (PySem.HandSPX.excO C hp.objs.size) := by
    show ((hp.push (PySem.W.kdv_tup [])).push (PySem.HandSPX.excO C hp.objs.size)).get? (hp.objs.size + 1) = _
    heap_get
  have I2 : Inv X pins σ (upd H a (exo a C none)) ⟨h2, g, dr, tk, os⟩ := I.laid (t' := tk) stays young (exo_ok lies)
  have rel : Vals [V.ref a] [Value.ref a] := .cons rfl .nil
  have init := F1.run _ X.stack ⟨h2, g, dr, tk, os⟩ _ ⟨[.ref a], []⟩ [.ref a] _ _ (fun _ _ _ => False)
    (hr.make C [] []) (I2.env0.make C [] []) (hb _ [.ref a] I2.kIn (F1.len _ _ _ _ wish)) rel wish
  refine wpAny_Call_Name_kw (ld_glob I hg hm (PySem.W.callWith_K0 I.kIn T.kC (wpAny_call
    (PySem.HandSPX.call_own F.excBase_ValueError (fun Y => PySem.HandSPX.refsVE_contains Y bm refs) (I.kIn _ _ cls)
      (PySem.W.looks_findIn I.kIn iC) (fun self => PySem.W.bind_fn I.kIn self tI) (Nat.zero_le _) (codeAny_mono init ?_)))) hdb)
  rintro (er | fl) s' out
  · exact hx pins σ _ _ er s' I2 out
  · cases fl with
    | ret u =>
      obtain ⟨_, H2, o1, o2, o3, o4, rv, rfl, d, fs, ea, ed, hd, q⟩ := out
      exact ⟨rv, mk_end (raises_own T.exC T.tyC) I young stays o3 o4 o1 o2 ea ed hd q⟩
    | _ => exact out.elim

/-- self.code = «code» -/
def spI0 (K : PySem.W.Frag) (C : Addr) (code : Str) : Sp := fun vs H Q _ => ∃ a, vs = [.ref a] ∧ H a = some (exo a C none) ∧
  ∀ dx, H dx = none → dx ≠ a → Q .non (upd (upd H dx (exd dx [("code", .str code)])) a (exo a C (some dx)))
/-- self.code = «code»; self.position = position -/
def spI1 (K : PySem.W.Frag) (C : Addr) (code : Str) : Sp := fun vs H Q _ => ∃ a v, vs = [.ref a, v] ∧ H a = some (exo a C none) ∧
  ∀ dx, H dx = none → dx ≠ a → Q .non (upd (upd (upd H dx (exd dx [("code", .str code)])) a (exo a C (some dx))) dx (exd dx [("position", v), ("code", .str code)]))
/-- what is left behind a raise -/
theorem after0 {H1 : Hp} {a dx C : Addr} {fs : List (Str × V)} {o : HO} (na : H1 a = none) (nd : (upd H1 a o) dx = none) (ne : dx ≠ a) :
    H1 dx = none ∧ Same H1 (upd (del (upd (upd (upd H1 a o) dx (exd dx fs)) a (exo a C (some dx))) a) dx (.xd fs)) := by
  have n1 : H1 dx = none := by rw [upd_ne ne] at nd; exact nd
  refine ⟨n1, fun b u e => ?_⟩
  have b1 : b ≠ a := ne_of_none e na
  have b2 : b ≠ dx := ne_of_none e n1
  rw [upd_ne b2, del_ne b1, upd_ne b1, upd_ne b2, upd_ne b1]
  exact e
theorem after1 {H1 : Hp} {a dx C : Addr} {fs gs : List (Str × V)} {o : HO} (na : H1 a = none) (nd : (upd H1 a o) dx = none) (ne : dx ≠ a) :
    H1 dx = none ∧ Same H1 (upd (del (upd (upd (upd (upd H1 a o) dx (exd dx gs)) a (exo a C (some dx))) dx (exd dx fs)) a) dx (.xd fs)) := by
  have n1 : H1 dx = none := by rw [upd_ne ne] at nd; exact nd
  refine ⟨n1, fun b u e => ?_⟩
  have b1 : b ≠ a := ne_of_none e na
  have b2 : b ≠ dx := ne_of_none e n1
  rw [upd_ne b2, del_ne b1, upd_ne b2, upd_ne b1, upd_ne b2, upd_ne b1]
  exact e
/-- the facts of an error class -/
structure ErrC (K : PySem.W.Frag) (mg : Str → Option Value) (x : Str) (C : Addr) : Prop where
  ox : OexC K C
  gl : mg x = some (.ref C)
  nc : PySem.W.findIn K (.ref C) "code" = some none
  np : PySem.W.findIn K (.ref C) "position" = some none
  xf : XfC K C

/-! ### _law_try -/
def TTry (K : PySem.W.Frag) (CF CM : Addr) : (XK → Hp → VK → Prop) → Hp → VK → Prop := fun tl H Q =>
  tl (fun cls d H' => PySem.W.exmAny K cls [.ref CF, .ref CM] = some true ∧ ∃ code v, ErrAt K cls d H' code v ∧
      ∀ H'' t, Same H' H'' → H'' t = none → Q (.ref t) (upd H'' t (.tup [.str code, v]))) H
    (fun v H' => 2 ≤ sizeLine ∧ ∀ t, H' t = none → Q (.ref t) (upd H' t (.tup [.str (Str.ofString "value"), v])))
/-- valid letters -/
structure Valid (cs : List Nat) : Prop where
  lo : 2 ≤ cs.length
  hi : cs.length ≤ 4
  az : ∀ c ∈ cs, 97 ≤ c ∧ c ≤ 122
  nd : cs.Nodup
def spCL (C : Addr) : Sp := fun vs H Q E => ∃ cs, vs = [.str (S cs)] ∧ cs.length ≤ 1000 ∧ (Valid cs → ∀ H', Same H H' → Q .non H') ∧
  (¬ Valid cs → ∀ H' d, Same H H' → H' d = some (.xd [("code", .str "InvalidLetters")]) → E (.ref C) (some d) H')
def spCT (C : Addr) : Sp := fun vs H Q E => ∃ gs xs, vs = [.str (S gs), .str (S xs)] ∧ ((∀ c ∈ xs, c ∈ gs) → ∀ H', Same H H' → Q .non H') ∧
  (∀ (i c : Nat), xs[i]? = some c → c ∉ gs → (∀ (j c' : Nat), j < i → xs[j]? = some c' → c' ∈ gs) → ∀ H' d, Same H H' →
    H' d = some (.xd [("position", .int (i : Nat)), ("code", .str "UnknownLetter")]) → E (.ref C) (some d) H')
theorem err_il {K : PySem.W.Frag} {mg : Str → Option Value} {x : Str} {C d : Addr} {H : Hp} (T : ErrC K mg x C) (h : H d = some (.xd [("code", .str "InvalidLetters")])) :
    ErrAt K (.ref C) (some d) H "InvalidLetters" .non := ⟨C, d, _, rfl, rfl, h, T.xf, T.nc, rfl, .inr ⟨.inl rfl, rfl⟩⟩
theorem err_ul {K : PySem.W.Frag} {mg : Str → Option Value} {x : Str} {C d : Addr} {H : Hp} {v : V} (T : ErrC K mg x C) (h : H d = some (.xd [("position", v), ("code", .str "UnknownLetter")])) :
    ErrAt K (.ref C) (some d) H "UnknownLetter" v := ⟨C, d, _, rfl, rfl, h, T.xf, T.nc, rfl, .inl ⟨.inl rfl, T.np, rfl⟩⟩
end Own

namespace Own
open PySem PySem.Spec PyProof.Rows L2 SX
/-! ### tables of code objects, and the drawer -/
theorem Same.extN {H H' : Hp} (s : Same H H') : LamX.ExtN H H' := fun b o h _ => s b o h
theorem tabs_same {T : List (Addr × Str)} {H H' : Hp} (t : LamX.Tabs T H) (s : Same H H') : LamX.Tabs T H' := t.ext s
theorem tabs_go {T : List (Addr × Str)} {r : Addr} {H H' : Hp} (t : LamX.Tabs T H) (g : Go r H H') : LamX.Tabs T H' := by
  intro p hp
  obtain ⟨ps, h1, h2, h3⟩ := t p hp
  obtain ⟨xs, er⟩ := g.rng0.ex
  refine ⟨ps, g.1 _ _ (ne_of h1 er fun e => by cases e) h1, h2, fun pos cv hc => ?_⟩
  obtain ⟨c, e1, e2⟩ := h3 pos cv hc
  exact ⟨c, e1, g.1 _ _ (ne_of e2 er fun e => by unfold LamX.CodeO at e; cases e) e2⟩
theorem rng_extN {r : Addr} {H H' : Hp} (R : Rng H r) (e : LamX.ExtN H H') : Rng H' r := by
  obtain ⟨l, ns, i, b, z, c, R⟩ := R
  exact ⟨l, ns, i, b, z, c, R.1, e _ _ R.2.1 (fun ps h => by cases h), e _ _ R.2.2 (fun ps h => by cases h)⟩
/-- all but the tables and the drawer at r stay; there is a drawer -/
structure Keep (T : List (Addr × Str)) (r : Addr) (H : Hp) : Prop where
  rng : Rng H r
  tab : LamX.Tabs T H
theorem Keep.same {T : List (Addr × Str)} {r : Addr} {H H' : Hp} (k : Keep T r H) (s : Same H H') : Keep T r H' := ⟨k.rng.same s, tabs_same k.tab s⟩
theorem Keep.go {T : List (Addr × Str)} {r : Addr} {H H' : Hp} (k : Keep T r H) (g : Go r H H') : Keep T r H' := ⟨g.rng, tabs_go k.tab g⟩
theorem Keep.ext {T : List (Addr × Str)} {r : Addr} {H H' : Hp} (k : Keep T r H) (e : LamX.ExtN H H') (t : LamX.Tabs T H') : Keep T r H' := ⟨rng_extN k.rng e, t⟩
theorem Keep.new {T : List (Addr × Str)} {r p : Addr} {H : Hp} {o : HO} (k : Keep T r H) (n : H p = none) : Keep T r (upd H p o) := k.same (same_new n)
/-! ### two calls tried -/
section
variable {K : PySem.W.Frag} {mg : Str → Option Value} {T : List (Addr × Str)} {CF CM C : Addr} {H : Hp} {σ : L2.St} {Q : VK} {x : Str} {ta : TA}
theorem lam_CL {cs : List Nat} (EC : ErrC K mg x C) (hx : PySem.W.exmAny K (.ref C) [.ref CF, .ref CM] = some true) (hT : LamX.Tabs T H)
    (ha : ∀ H1 (k : List V → Hp → Prop), k [.str (S cs)] H1 → ta σ H1 k) (hl : cs.length ≤ 1000)
    (q : ∀ H' t code, LamX.ExtN H H' → LamX.Tabs T H' → H' t = some (.tup [.str code, .non]) → (Valid cs ∧ code = Str.ofString "value" ∨ ¬ Valid cs ∧ code = Str.ofString "InvalidLetters") → Q (.ref t) H') :
    LamX.tLam T (TTry K CF CM) (fun E => tCall (spCL C) [] E ta) σ H Q := by
  refine ⟨hT, fun H1 e1 t1 => ?_⟩
  refine ha H1 _ ⟨cs, rfl, hl, fun hv H2 s2 => ⟨by decide, fun t nt => ?_⟩, fun hv H2 d s2 hd => ⟨hx, _, _, err_il EC hd, fun H3 t s3 nt => ?_⟩⟩
  · exact q _ t _ (e1.trans (Same.extN (s2.trans (same_new nt)))) (tabs_same t1 (s2.trans (same_new nt))) upd_same (.inl ⟨hv, rfl⟩)
  · exact q _ t _ (e1.trans (Same.extN ((s2.trans s3).trans (same_new nt)))) (tabs_same t1 ((s2.trans s3).trans (same_new nt))) upd_same (.inr ⟨hv, rfl⟩)
/-- the first sign of xs that is none of gs -/
def Bad (gs xs : List Nat) (i : Nat) : Prop := ∃ c : Nat, xs[i]? = some c ∧ c ∉ gs ∧ ∀ (j c' : Nat), j < i → xs[j]? = some c' → c' ∈ gs
theorem Bad.one {gs xs : List Nat} {i j : Nat} (a : Bad gs xs i) (b : Bad gs xs j) : i = j := by
  obtain ⟨c, h1, h2, h3⟩ := a
  obtain ⟨d, k1, k2, k3⟩ := b
  rcases Nat.lt_trichotomy i j with h | h | h
  · exact absurd (k3 i c h h1) h2
  · exact h
  · exact absurd (h3 j d h k1) k2
theorem lam_CT {gs xs : List Nat} (EC : ErrC K mg x C) (hx : PySem.W.exmAny K (.ref C) [.ref CF, .ref CM] = some true) (hT : LamX.Tabs T H)
    (ha : ∀ H1 (k : List V → Hp → Prop), k [.str (S gs), .str (S xs)] H1 → ta σ H1 k)
    (q : ∀ H' t code v, LamX.ExtN H H' → LamX.Tabs T H' → H' t = some (.tup [.str code, v]) →
      ((∀ c ∈ xs, c ∈ gs) ∧ code = Str.ofString "value" ∧ v = .non ∨ ∃ i : Nat, Bad gs xs i ∧ code = Str.ofString "UnknownLetter" ∧ v = .int (i : Nat)) → Q (.ref t) H') :
    LamX.tLam T (TTry K CF CM) (fun E => tCall (spCT C) [] E ta) σ H Q := by
  refine ⟨hT, fun H1 e1 t1 => ?_⟩
  refine ha H1 _ ⟨gs, xs, rfl, fun hv H2 s2 => ⟨by decide, fun t nt => ?_⟩, fun i c hc hn hall H2 d s2 hd => ⟨hx, _, _, err_ul EC hd, fun H3 t s3 nt => ?_⟩⟩
  · exact q _ t _ _ (e1.trans (Same.extN (s2.trans (same_new nt)))) (tabs_same t1 (s2.trans (same_new nt))) upd_same (.inl ⟨hv, rfl, rfl⟩)
  · exact q _ t _ _ (e1.trans (Same.extN ((s2.trans s3).trans (same_new nt)))) (tabs_same t1 ((s2.trans s3).trans (same_new nt))) upd_same (.inr ⟨i, ⟨c, hc, hn, hall⟩, rfl, rfl⟩)
end
/-! ### signs that stand twice, signs that are none of the letters -/
def twL (cs : List Nat) (n : Nat) : List Nat := (List.range n).filter fun i => decide (cs.getD i 0 ∈ cs.take i)
def wrL (gs xs : List Nat) (n : Nat) : List Nat := (List.range n).filter fun i => !decide (xs.getD i 0 ∈ gs)
theorem twL_step {cs : List Nat} {i c : Nat} (h : cs[i]? = some c) : twL cs (i + 1) = twL cs i ++ (if decide (c ∈ cs.take i) = true then [i] else []) := by
  have e : cs.getD i 0 = c := by rw [List.getD_eq_getElem?_getD, h]; rfl
  unfold twL
  rw [List.range_succ, List.filter_append, ← e]
  congr 1
  show (match decide (cs.getD i 0 ∈ List.take i cs) with | true => [i] | false => []) = _
  cases decide (cs.getD i 0 ∈ List.take i cs) <;> rfl
theorem wrL_step {gs xs : List Nat} {i c : Nat} (h : xs[i]? = some c) : wrL gs xs (i + 1) = wrL gs xs i ++ (if (!decide (c ∈ gs)) = true then [i] else []) := by
  have e : xs.getD i 0 = c := by rw [List.getD_eq_getElem?_getD, h]; rfl
  unfold wrL
  rw [List.range_succ, List.filter_append, ← e]
  congr 1
  show (match !decide (xs.getD i 0 ∈ gs) with | true => [i] | false => []) = _
  cases decide (xs.getD i 0 ∈ gs) <;> rfl
theorem twL_len {cs : List Nat} {n : Nat} : (twL cs n).length ≤ n := by
  unfold twL
  exact Nat.le_trans (List.length_filter_le _ _) (Nat.le_of_eq List.length_range)
theorem wrL_len {gs xs : List Nat} {n : Nat} : (wrL gs xs n).length ≤ n := by
  unfold wrL
  exact Nat.le_trans (List.length_filter_le _ _) (Nat.le_of_eq List.length_range)
theorem tw_nil {cs : List Nat} : twL cs cs.length = [] ↔ cs.Nodup := by
  unfold twL
  rw [List.filter_eq_nil_iff]
  constructor
  · intro h
    have main : ∀ n, n ≤ cs.length → (cs.take n).Nodup := by
      intro n
      induction n with
      | zero => intro _; rw [List.take_zero]; exact List.Pairwise.nil
      | succ n ih =>
        intro hn
        have hc : cs[n]? = some cs[n] := List.getElem?_eq_getElem (by omega)
        have ht : cs.take (n + 1) = cs.take n ++ [cs[n]] := by rw [List.take_add_one, hc]; rfl
        rw [ht]
        refine List.nodup_append.mpr ⟨ih (by omega), by simp, fun z hz z' hz' e => ?_⟩
        rw [List.mem_singleton.mp hz'] at e
        have := h n (List.mem_range.mpr (by omega))
        rw [List.getD_eq_getElem?_getD, hc] at this
        exact this (decide_eq_true (by rw [← e]; exact hz))
    have := main cs.length (Nat.le_refl _)
    rw [List.take_length] at this
    exact this
  · intro nd i hi hd
    have hn := List.mem_range.mp hi
    have hc : cs[i]? = some cs[i] := List.getElem?_eq_getElem hn
    have ht : cs.take (i + 1) = cs.take i ++ [cs[i]] := by rw [List.take_add_one, hc]; rfl
    have nd2 : (cs.take i ++ [cs[i]]).Nodup := by
      rw [← ht]
      exact (List.take_sublist _ _).nodup nd
    rw [List.getD_eq_getElem?_getD, hc] at hd
    exact (List.nodup_append.mp nd2).2.2 _ (of_decide_eq_true hd) _ (List.mem_singleton.mpr rfl) rfl
theorem wr_cases {gs xs : List Nat} : (wrL gs xs xs.length = [] ∧ ∀ c ∈ xs, c ∈ gs) ∨ ∃ i rest, wrL gs xs xs.length = i :: rest ∧ Bad gs xs i := by
  have memI : ∀ {i c : Nat}, xs[i]? = some c → c ∉ gs → i ∈ wrL gs xs xs.length := by
    intro i c hc hn
    unfold wrL
    rw [List.mem_filter]
    refine ⟨List.mem_range.mpr (List.getElem?_eq_some_iff.mp hc).1, ?_⟩
    rw [List.getD_eq_getElem?_getD, hc]
    show (!decide (c ∈ gs)) = true
    rw [decide_eq_false hn]
    rfl
  cases h : wrL gs xs xs.length with
  | nil =>
    refine .inl ⟨rfl, fun c hc => ?_⟩
    obtain ⟨i, hi⟩ := List.mem_iff_getElem?.mp hc
    refine Decidable.byContradiction fun hn => ?_
    have := memI hi hn
    rw [h] at this
    cases this
  | cons i rest =>
    refine .inr ⟨i, rest, rfl, ?_⟩
    have hi : i ∈ wrL gs xs xs.length := by rw [h]; exact List.mem_cons_self ..
    have hp : (wrL gs xs xs.length).Pairwise (· < ·) := List.Pairwise.sublist List.filter_sublist List.pairwise_lt_range
    unfold wrL at hi
    rw [List.mem_filter] at hi
    obtain ⟨h1, h2⟩ := hi
    have hlt : i < xs.length := List.mem_range.mp h1
    have hc : xs[i]? = some xs[i] := List.getElem?_eq_getElem hlt
    rw [List.getD_eq_getElem?_getD, hc] at h2
    refine ⟨xs[i], hc, fun hm => ?_, fun j c' hj hx => ?_⟩
    · have h2 : (!decide (xs[i] ∈ gs)) = true := h2
      rw [decide_eq_true hm] at h2
      cases h2
    · refine Decidable.byContradiction fun hn => ?_
      have := memI hx hn
      rw [h] at this hp
      rcases List.mem_cons.mp this with e | e
      · omega
      · have := (List.pairwise_cons.mp hp).1 j e
        omega
/-! ### lists of ints compared with nothing -/
abbrev nint (n : Nat) : V := .int (n : Int)
theorem dp_ints {K : PySem.W.Frag} {H : Hp} : ∀ ns : List Nat, DpAll K H (ns.map nint) (ns.map fun n : Nat => PyData.int (n : Int))
  | [] => .nil
  | _ :: r => .cons (.int _) (dp_ints r)
theorem lay_ints : ∀ ns : List Nat, PyData.canLayAll0 (ns.map fun n : Nat => PyData.int (n : Int)) = true
  | [] => rfl
  | n :: r => by
    show (PyData.canLay0 (.int (n : Int)) && PyData.canLayAll0 (r.map fun n : Nat => PyData.int (n : Int))) = true
    rw [lay_ints r, Bool.and_true]
    rfl
theorem dep_ints : ∀ ns : List Nat, PyData.depthAll (ns.map fun n : Nat => PyData.int (n : Int)) = 0
  | [] => rfl
  | n :: r => by
    show max (PyData.depth (.int (n : Int))) (PyData.depthAll (r.map fun n : Nat => PyData.int (n : Int))) = 0
    rw [dep_ints r]
    rfl
theorem shp_ints {ns : List Nat} : SeqAt.shaped (.list (ns.map fun n : Nat => PyData.int (n : Int))) = true := by
  unfold SeqAt.shaped
  have e : (PyData.list (ns.map fun n : Nat => PyData.int (n : Int))).depth = 1 := by
    show PyData.depthAll (ns.map fun n : Nat => PyData.int (n : Int)) + 1 = 1
    rw [dep_ints]
  rw [e]
  show (PyData.canLayAll0 (ns.map fun n : Nat => PyData.int (n : Int)) && decide (1 ≤ 64)) = true
  rw [lay_ints]
  rfl
theorem eqv_nil {ns : List Nat} : PyData.eqv (.list (ns.map fun n : Nat => PyData.int (n : Int))) (.list []) = decide (ns = []) := by
  cases ns with
  | nil => rfl
  | cons n r =>
    rw [decide_eq_false (fun e => by cases e)]
    rfl
/-- two tuples of flat things -/
theorem Eqd.tup {K : PySem.W.Frag} {H : Hp} {n : Nat} {a b : Addr} {xs : List V} (h1 : H a = some (.tup xs)) (h2 : H b = some (.tup xs)) (hl : xs.length ≤ 1000) (hf : ∀ x ∈ xs, Flat x) :
    Eqd K H (n + 2) (.ref a) (.ref b) := by
  refine Or.inr ⟨a, b, xs, xs, rfl, rfl, .inr ⟨.inl (.inl h1), .inl (.inl h2)⟩, hl, rfl, fun i u v hu hv => ?_⟩
  have e := Option.some.inj (hu.symm.trans hv)
  subst e
  exact Eqd.refl (hf _ (List.mem_of_getElem? hu))
theorem dp_two {K : PySem.W.Frag} {H : Hp} {t : Addr} {z : Str} (h : H t = some (.tup [.str z, .non])) : Dp K H (.ref t) (.tuple [.str z, .none]) :=
  .tup (.inl (.inl h)) (.cons (.str _) (.cons .non .nil))
/-! ### readings with one end -/
theorem and3 {t1 t3 : TE} {σ : L2.St} {H : Hp} {Q : VK} {i : Nat} {b1 b2 b3 : Bool} (h1 : ∀ k : VK, k (.bl b1) H → t1 σ H k) (h2 : σ[i]? = some (some (.bl b2)))
    (h3 : ∀ k : VK, (∀ H', Same H H' → k (.bl b3) H') → t3 σ H k) (q : ∀ H', Same H H' → Q (.bl (b1 && (b2 && b3))) H') : tAndV t1 (tAndV (tVar i) t3) σ H Q := by
  refine h1 _ ⟨b1, rfl, ?_⟩
  cases b1 with
  | false => exact iteF (q _ (Same.refl _))
  | true =>
    refine iteT ⟨_, h2, b2, rfl, ?_⟩
    cases b2 with
    | false => exact iteF (q _ (Same.refl _))
    | true => exact iteT (h3 _ fun H' s => q _ s)
theorem tIf_red {σ : L2.St} {H : Hp} {Q : VK} {i : Nat} {b : Bool} {z1 z2 : Str} (h : σ[i]? = some (some (.bl b)))
    (q : ∀ p, H p = none → Q (.ref p) (upd H p (.tup [.str (if b = true then z1 else z2), .non]))) :
    tIf (tB (tVar i)) (tTup (tCons (tC (.str z1)) (tCons (tC .non) tNil))) (tTup (tCons (tC (.str z2)) (tCons (tC .non) tNil))) σ H Q := by
  refine ⟨_, h, b, rfl, ?_⟩
  cases b with
  | true => exact iteT ⟨(by show 2 ≤ sizeLine; decide), fun p np => q p np⟩
  | false => exact iteF ⟨(by show 2 ≤ sizeLine; decide), fun p np => q p np⟩
/-- what is due of a text to be checked -/
def Alt (gs xs : List Nat) (code : Str) (v : V) : Prop :=
  (∀ c ∈ xs, c ∈ gs) ∧ code = Str.ofString "value" ∧ v = .non ∨ ∃ i : Nat, Bad gs xs i ∧ code = Str.ofString "UnknownLetter" ∧ v = .int (i : Nat)
theorem Alt.one {gs xs : List Nat} {z z' : Str} {v v' : V} (a : Alt gs xs z v) (b : Alt gs xs z' v') : z = z' ∧ v = v' := by
  rcases a with ⟨h, rfl, rfl⟩ | ⟨i, B, rfl, rfl⟩ <;> rcases b with ⟨h', rfl, rfl⟩ | ⟨j, B', rfl, rfl⟩
  · exact ⟨rfl, rfl⟩
  · obtain ⟨c, h1, h2, _⟩ := B'
    exact absurd (h c (List.mem_of_getElem? h1)) h2
  · obtain ⟨c, h1, h2, _⟩ := B
    exact absurd (h' c (List.mem_of_getElem? h1)) h2
  · rw [B.one B']
    exact ⟨rfl, rfl⟩
theorem Alt.flat {gs xs : List Nat} {z : Str} {v : V} (a : Alt gs xs z v) : Flat v := by
  rcases a with ⟨h, rfl, rfl⟩ | ⟨i, B, rfl, rfl⟩ <;> trivial
theorem due_red {K : PySem.W.Frag} {σ : L2.St} {H : Hp} {Q : VK} {i : Nat} {D3 : Addr} {gs ys : List Nat} (h : σ[i]? = some (some (.ref D3))) (hD : H D3 = some (.lst ((wrL gs ys ys.length).map nint)))
    (q : ∀ H' t code v, Same H H' → H' t = some (.tup [.str code, v]) → Alt gs ys code v → Q (.ref t) H') :
    tIf (tTest (tOp (rNeD K) (tVar i) (tLst tNil))) (tTup (tCons (tC (.str (Str.ofString "UnknownLetter"))) (tCons (tOp (rIxL K) (tVar i) (tC (.int 0))) tNil)))
      (tTup (tCons (tC (.str (Str.ofString "value"))) (tCons (tC .non) tNil))) σ H Q := by
  refine ⟨_, h, Nat.zero_le _, fun l nl => ?_⟩
  have s1 := same_new (o := .lst []) nl
  refine ⟨_, _, .lst (.inl (.inl (s1 _ _ hD))) (dp_ints _), .lst (.inl (.inl upd_same)) .nil, shp_ints, by decide +kernel, ?_⟩
  rw [eqv_nil]
  rcases wr_cases (gs := gs) (xs := ys) with ⟨e, ha⟩ | ⟨j, rest, e, hb⟩
  · rw [decide_eq_true e]
    refine ⟨false, rfl, iteF ⟨(by show 2 ≤ sizeLine; decide), fun p np => ?_⟩⟩
    exact q _ p _ _ (s1.trans (same_new np)) upd_same (.inl ⟨ha, rfl, rfl⟩)
  · rw [decide_eq_false (by rw [e]; exact fun h => by cases h)]
    refine ⟨true, rfl, iteT ⟨_, h, _, _, 0, nint j, rfl, rfl, .inl (.inl (s1 _ _ hD)), by rw [e]; exact atI_nat (xs := (j :: rest).map nint) (j := 0) rfl, ?_⟩⟩
    refine ⟨(by show 2 ≤ sizeLine; decide), fun p np => ?_⟩
    exact q _ p _ _ (s1.trans (same_new np)) upd_same (.inr ⟨j, hb, rfl, rfl⟩)
theorem sh_val : SeqAt.shaped (.tuple [.str (Str.ofString "value"), .none]) = true := by decide +kernel
theorem sh_il : SeqAt.shaped (.tuple [.str (Str.ofString "InvalidLetters"), .none]) = true := by decide +kernel
theorem eq_two {z : Str} (h : SeqAt.shaped (.tuple [.str z, .none]) = true) : PyData.eqv (.tuple [.str z, .none]) (.tuple [.str z, .none]) = true := SeqAt.eqv_refl _ (SeqAt.canLay_of_shaped h)
end Own

namespace Own
open PySem PySem.Spec PyProof.Rows L2 SX
/-! ### three texts zipped -/
def n3 (x y z : Str) : Nat := min (min x.cps.size y.cps.size) z.cps.size
def It3 (x y z : Str) : It :=
  ⟨fun i _ => i < n3 x y z,
   fun i H v H' => ∃ T c d e, v = .ref T ∧ H T = none ∧ x.cps[i]? = some c ∧ y.cps[i]? = some d ∧ z.cps[i]? = some e ∧
     H' = upd H T (.tup [.str ⟨#[c]⟩, .str ⟨#[d]⟩, .str ⟨#[e]⟩]),
   fun i _ => i = n3 x y z⟩
theorem turn3 {P : Program} {w : World} {K : PySem.W.Frag} {elts : List Expr} {kk : Nat} {tpos : Pos} (x y z : Str) (tx ty tz : Tok) {I TI TO i1 i2 i3 : Addr} (S : ZipSep3 I TI TO i1 i2 i3 [i1] [i2] [i3]) :
    Turn P w K (.Tuple elts kk tpos) (It3 x y z) (I :: TI :: TO :: ([i1] ++ [i2] ++ [i3])) I
      (fun i h => IsZip h I TI TO .none ∧ IsTupOf3 h TI (.ref i1) (.ref i2) (.ref i3) ∧ (∃ a1 a2 a3, IsTupOf3 h TO a1 a2 a3) ∧ h.IsStrIter i1 (strIterType x) x tx i ∧ h.IsStrIter i2 (strIterType y) y ty i ∧ h.IsStrIter i3 (strIterType z) z tz i) := by
  have it_ok : ∀ {h : Heap} {a : Addr} {c : String} {u : Str} {t : Tok} {i : Nat}, h.IsStrIter a c u t i → ∃ o, h.get? a = some o ∧ ∀ v, o.data ≠ .cell v :=
    fun ⟨o, e, _, d⟩ => ⟨o, e, fun v q => by rw [d] at q; cases q⟩
  refine turn_tuples (R := fun i vs => ∃ c d e, x.cps[i]? = some c ∧ y.cps[i]? = some d ∧ z.cps[i]? = some e ∧ vs = [.str ⟨#[c]⟩, .str ⟨#[d]⟩, .str ⟨#[e]⟩])
    (fun A hh => GoesN.zip3 (elts := elts) (x1 := kk) (pos := tpos) S (Draws.text (prog := P) (w := w) (A := A.in1) hh i1 x tx)
      (Draws.text (prog := P) (w := w) (A := A.in1) hh i2 y ty) (Draws.text (prog := P) (w := w) (A := A.in1) hh i3 z tz))
    ?_ List.mem_cons_self ?_ (fun A i s Q E st h => wpAny_pyIter_zip st.1 h) (fun _ _ h => h) (fun _ _ h => h) ?_
  · rintro i h0 u h ⟨T, _, _, _, rfl, young, ⟨c, _, hc, rfl⟩, ⟨d, _, hd, rfl⟩, ⟨e, _, he, rfl⟩, tup⟩
    exact ⟨T, _, [_, _, _], rfl, young, by show 3 ≤ sizeLine; decide, ⟨c, d, e, hc, hd, he, rfl⟩, .cons ⟨_, rfl⟩ (.cons ⟨_, rfl⟩ (.cons ⟨_, rfl⟩ .nil)), tup⟩
  · rintro i h ⟨a, b, ⟨_, _, _, c⟩, p, q, r⟩
    simp only [List.cons_append, List.nil_append, List.forall_mem_cons]
    exact ⟨⟨_, a, fun v => nofun⟩, ⟨_, b, fun v => nofun⟩, ⟨_, c, fun v => nofun⟩, it_ok p, it_ok q, it_ok r, fun _ q => nomatch q⟩
  · rintro i H T vs free ⟨c, d, e, hc, hd, he, rfl⟩
    exact ⟨T, c, d, e, rfl, free, hc, hd, he, rfl⟩
def iZip3 (ta : TA) : TI := fun σ H R => ta σ H fun vs H1 => ∃ x y z, vs = [.str x, .str y, .str z] ∧ R (It3 x y z) H1
theorem pi_zip3 {X : Cx} {e e2 e3 : Expr} {ta : TA} {p pos tpos : Pos} {elts : List Expr} {kk : Nat} (hg : Gl X "zip") (hm : X.mg "zip" = none) (ha : PA X [e, e2, e3] ta)
    (hs : starEach [e, e2, e3] X.env = (false, eval e X.env) :: starEach [e2, e3] X.env := by rfl) (hpl : (backTo pos (starEach [e2, e3] X.env)).any (·.1) = false := by rfl) :
    PI X (.Tuple elts kk tpos) (.Call (.Name "zip" p) [e, e2, e3] [] pos) (iZip3 ta) := by
  constructor
  intro pins s σ H R I h
  refine Call_ (ld_blt I hg hm PyProof.Rows.boot_zip (PyProof.Rows.callWith_type1 (thn (ha.run pos pins s σ H _ I h) ?_) hs hpl))
  rintro us s1 ⟨vs, H1, I1, r1, x, y, z, rfl, q⟩
  rcases r1 with _ | ⟨⟨t1, rfl⟩, r1⟩
  obtain ⟨_, _, rfl, ⟨t2, rfl⟩, ⟨t3, rfl⟩⟩ := vals2 r1
  refine zip_begins3 (begins_text x t1) (begins_text y t2) (begins_text z t3) trivial trivial trivial fun h' hz hTI hTO h1 h2 h3 _ hk => wpAny_pyIter_zip hz ?_
  refine ⟨s1.heap.objs.size + 5, _, _, _, H1, rfl, I1.kept hk, turn3 x y z t1 t2 t3 (zip_sep3 (N := s1.heap.objs.size) (fp1 := []) (fp2 := []) (fp3 := []) (fun _ q => nomatch q) (fun _ q => nomatch q) fun _ q => nomatch q),
    ⟨hz, hTI, ⟨_, _, _, hTO⟩, ⟨_, h1, rfl, rfl⟩, ⟨_, h2, rfl, rfl⟩, ⟨_, h3, rfl, rfl⟩⟩, ?_, q⟩
  have young : ∀ k : Nat, FpOk X pins H1 (s1.heap.objs.size + k) := fun k => I1.fpOk (Nat.le_add_right _ _) (I1.hok.fresh (Nat.le_add_right _ _))
  simp only [List.cons_append, List.nil_append, List.forall_mem_cons]
  exact ⟨young 5, young 3, young 4, young 0, young 1, young 2, fun _ q => nomatch q⟩
theorem walk3 {x y z : Str} : Walk (It3 x y z) (n3 x y z) (fun _ => True)
    (fun i H v H' => ∃ T c d e, v = .ref T ∧ H T = none ∧ x.cps[i]? = some c ∧ y.cps[i]? = some d ∧ z.cps[i]? = some e ∧ H' = upd H T (.tup [.str ⟨#[c]⟩, .str ⟨#[d]⟩, .str ⟨#[e]⟩])) :=
  ⟨fun _ _ h _ => h, fun _ _ => rfl, fun _ _ _ _ _ _ h => h⟩
end Own

namespace Own
open PySem PySem.Spec PyProof.Rows L2 SX
/-! ### sorted(text) -/
theorem strs_of {xs : List Str} : ∀ {us : List Value}, us.length = xs.length → (∀ (j : Nat) (v : Value), us[j]? = some v → ∃ y t, xs[j]? = some y ∧ v = .str y t) → StrsAre us xs := by
  induction xs with
  | nil =>
    intro us hl _
    cases us with
    | nil => exact .nil
    | cons _ _ => cases hl
  | cons x r ih =>
    intro us hl h
    cases us with
    | nil => cases hl
    | cons u us =>
      obtain ⟨y, t, e1, rfl⟩ := h 0 u rfl
      cases e1
      exact .cons _ _ (ih (Nat.succ.inj hl) fun j v e => h (j + 1) v e)
section
variable {X : Cx}
theorem call_sortedTx (hcalm : X.calm = true) : CallR X (.builtin "sorted") (fun xs H Q => ∃ (z : Str), xs = [.str z] ∧ z.cps.size < 64 ∧
    ∀ ys p, ys.Perm (z.cps.toList.map fun c => (⟨#[c]⟩ : Str)) → sortedS ys = true → H p = none → Q (.ref p) (upd H p (.lst (ys.map V.str)))) := by
  rintro pins s σ H _ us Q I r ⟨z, rfl, few, q⟩
  obtain ⟨_, rfl, t, rfl⟩ := vals1 r
  have line : z.cps.size ≤ sizeLine := Nat.le_trans (Nat.le_of_lt few) (by rw [sizeLine_eq]; decide)
  have body := Calls.call_function_entry (prog := X.prog) (w := X.w) (A := X.A) (E := X.xe) (s := s) (Q := EP X pins σ Q) kind_sorted plain_sorted entry_sorted (args_sorted1 (.str z t))
  refine body ?_
  rw [Builtin.«sorted»]
  refine wpAny_bind (m := checkCount "sorted" 1 1 _) (wpAny_pure (wpAny_bind (wpAny_collect_str (A := X.A.in1) (I.ok.hd hcalm) z t ?_ line)))
  rintro ⟨g, gens, drawn, tk, os⟩ acc keep (rfl : gens = s.gens) (rfl : drawn = s.drawn) (rfl : os = s.os) ⟨size, signs⟩
  -- the signs, one by one, in a list of their own
  have many : acc.toList.length = z.cps.size := by simpa using size
  have tx1 : StrsAre acc.toList (z.cps.toList.map fun c => (⟨#[c]⟩ : Str)) := by
    refine strs_of (by simpa using size) fun j v e => ?_
    obtain ⟨c, u, at_, rfl⟩ := signs j v (by simpa using e)
    exact ⟨_, u, by simp [at_], rfl⟩
  have made : (g.push (seqObj "list" acc.toList.toArray 0)).get? g.objs.size = some (seqObj "list" acc.toList.toArray 0) := Heap.get?_push_size _ rfl
  refine wpAny_bind (wpAny_newList (wpAny_bind (wpAny_holding (wpAny_call_entry slot_list_sort ⟨_, made, rfl⟩ entry_list_sort (list_sort_treeK strKind_oneLt
    (s := { s with heap := g.push (seqObj "list" acc.toList.toArray 0), toks := tk }) made tx1.keysOf (fun _ _ _ e => keyKind_strs (e ▸ tx1)) (many ▸ few) ?_) (args_list_sort _)))) (many ▸ line))
  intro st perm srt
  refine ⟨_, rfl, ?_⟩
  obtain ⟨ys, out, same, inOrder⟩ := sorted_out_str tx1 perm srt
  obtain ⟨n, lies⟩ := sortedHeap_at (vs := acc.toList) (out := (arrOf st).map (·.2)) made
  have I1 : Inv X pins σ H { s with heap := g, toks := tk } := I.kept keep
  refine wpAny_pure ⟨_, rfl, .ref g.objs.size, upd H g.objs.size (.lst (ys.map V.str)), I1.laid (t' := tk) (fun b o e => ?_) (Nat.le_refl _) ?_, rfl, q ys _ same inOrder (I1.hok.fresh (Nat.le_refl _))⟩
  · have lt := Heap.lt_size e
    exact (sortedHeap_old (Nat.ne_of_lt lt) (by rw [size_push']; exact Nat.lt_add_right 1 lt)).trans (Heap.get?_push_of_some _ e)
  · have short : (ys.map V.str).length ≤ sizeLine := by simpa [same.length_eq] using line
    exact (show ObjOk X.prog X.w _ _ _ (.lst (ys.map V.str)) from ⟨short, _, n, vals_of_strs out, lies.trans (by rw [Array.toArray_toList])⟩)
end
/-! ### count of one sign -/
theorem cnt_run (a : List Nat) (c lim : Nat) : ∀ (n lo : Nat) (st : Array Nat × Nat), lo + n = a.length + 1 → st.2 ≤ lo → st.1.size + n ≤ lim →
    (forIn (List.range' lo n) st (StrLaws.occBody (S a) (S [c]) a.length lim)).run.fst.size = st.1.size + (a.drop lo).count c := by
  intro n
  induction n with
  | zero =>
    intro lo st h1 _ _
    rw [List.drop_eq_nil_of_le (by omega)]
    rfl
  | succ n ih =>
    intro lo st h1 h2 h3
    rw [List.range'_succ, List.forIn_cons]
    unfold StrLaws.occBody
    by_cases hc : a[lo]? = some c
    · have hsub := (StrLaws.subAt_one (S a) c lo).mpr hc
      have hlt : lo < a.length := (List.getElem?_eq_some_iff.mp hc).1
      have e : a.drop lo = c :: a.drop (lo + 1) := by
        rw [List.drop_eq_getElem_cons hlt]
        rw [(List.getElem?_eq_some_iff.mp hc).2]
      rw [if_pos ⟨⟨⟨by omega, h2⟩, hsub.1⟩, hsub.2⟩]
      have := ih (lo + 1) (st.1.push lo, lo + 1) (by omega) (Nat.le_refl _) (by simp only [Array.size_push]; omega)
      refine this.trans ?_
      rw [e, List.count_cons_self, Array.size_push]
      omega
    · rw [if_neg fun h => hc ((StrLaws.subAt_one (S a) c lo).mp ⟨h.1.2, h.2⟩)]
      have := ih (lo + 1) (st.1, st.2) (by omega) (by show st.2 ≤ _; omega) (by show st.1.size + _ ≤ _; omega)
      refine this.trans ?_
      by_cases hlt : lo < a.length
      · have e : a.drop lo = a[lo] :: a.drop (lo + 1) := List.drop_eq_getElem_cons hlt
        rw [e, List.count_cons_of_ne (fun e => hc (by rw [List.getElem?_eq_getElem hlt, e]))]
      · rw [List.drop_eq_nil_of_le (by omega), List.drop_eq_nil_of_le (by omega)]
theorem count_S (a : List Nat) (c : Nat) : Txt.count (S a) (S [c]) = ((a.count c : Nat) : Int) := by
  unfold Txt.count
  rw [StrLaws.occ_eq, Array.length_toList]
  have := cnt_run a c (a.length + 1) (a.length + 1) 0 (#[], 0) (by omega) (Nat.le_refl _) (by show 0 + _ ≤ _; omega)
  rw [S_len]
  show (((forIn (List.range' 0 (a.length + 1)) (#[], 0) (StrLaws.occBody (S a) (S [c]) a.length (a.length + 1))).run.fst.size : Nat) : Int) = _
  rw [this]
  show ((0 + (a.drop 0).count c : Nat) : Int) = _
  rw [Nat.zero_add, List.drop_zero]
theorem perm_of_counts : ∀ (gs t : List Nat), gs.Nodup → t.length = gs.length → (∀ c ∈ gs, t.count c = 1) → t.Perm gs
  | [], t, _, hl, _ => by
    rw [List.length_eq_zero_iff.mp hl]
  | c :: r, t, nd, hl, h => by
    have hc : c ∈ t := List.count_pos_iff.mp (by rw [h c (List.mem_cons_self ..)]; decide)
    have nd2 := List.nodup_cons.mp nd
    refine (List.perm_cons_erase hc).trans (List.Perm.cons c (perm_of_counts r _ nd2.2 (by rw [List.length_erase_of_mem hc, hl]; rfl) fun d hd => ?_))
    rw [List.count_erase_of_ne (fun e => nd2.1 (by rw [← e]; exact hd))]
    exact h d (List.mem_cons_of_mem _ hd)
theorem right_iff {gs t : List Nat} (nd : gs.Nodup) : (decide (t.length = gs.length) && (gs.map fun c => decide (t.count c = 1)).all id) = decide (t.Perm gs) := by
  rw [Bool.eq_iff_iff, Bool.and_eq_true, decide_eq_true_iff, decide_eq_true_iff, List.all_eq_true]
  constructor
  · rintro ⟨h1, h2⟩
    exact perm_of_counts gs t nd h1 fun c hc => of_decide_eq_true (h2 _ (List.mem_map.mpr ⟨c, hc, rfl⟩))
  · intro p
    refine ⟨p.length_eq, fun x hx => ?_⟩
    obtain ⟨c, hc, rfl⟩ := List.mem_map.mp hx
    exact decide_eq_true (by rw [p.count_eq, nd.count, if_pos hc])
/-! ### sorted signs -/
theorem signs_of {zs : List Nat} {ys : List Str} (hp : ys.Perm (zs.map fun c => (⟨#[c]⟩ : Str))) : ∃ ls : List (List Nat), ys = ls.map S ∧ ls.Perm (zs.map fun c => [c]) := by
  refine ⟨ys.map fun y => y.cps.toList, ?_, ?_⟩
  · rw [List.map_map]
    refine ((List.map_congr_left fun y hy => ?_).trans (List.map_id ys)).symm
    obtain ⟨c, _, rfl⟩ := List.mem_map.mp (hp.mem_iff.mp hy)
    rfl
  · have := hp.map fun y => y.cps.toList
    rw [List.map_map] at this
    exact this
theorem signs_eq {zs ws : List Nat} {ls ms : List (List Nat)} (h1 : ls.Perm (zs.map fun c => [c])) (h2 : ms.Perm (ws.map fun c => [c])) (s1 : sortedS (ls.map S) = true) (s2 : sortedS (ms.map S) = true) :
    decide (ls = ms) = decide (zs.Perm ws) := by
  rw [decide_eq_decide]
  constructor
  · intro e
    subst e
    have := (h1.symm.trans h2).map fun l => l.headD 0
    simp only [List.map_map] at this
    have e1 : zs.map ((fun l : List Nat => l.headD 0) ∘ fun c => [c]) = zs := (List.map_congr_left fun _ _ => rfl).trans (List.map_id zs)
    have e2 : ws.map ((fun l : List Nat => l.headD 0) ∘ fun c => [c]) = ws := (List.map_congr_left fun _ _ => rfl).trans (List.map_id ws)
    rw [e1, e2] at this
    exact this
  · intro p
    refine List.Perm.eq_of_pairwise (le := fun a b => ¬ b < a) (fun a b _ _ h1 h2 => ?_) (sorted_pw _ s1) (sorted_pw _ s2) ((h1.trans (p.map _)).trans h2.symm)
    exact List.le_antisymm (List.not_lt.mp h1) (List.not_lt.mp h2)
theorem eqvAll_tx : ∀ ls ms : List (List Nat), PyData.eqvAll (ls.map fun c => PyData.str (S c)) (ms.map fun c => PyData.str (S c)) = decide (ls = ms)
  | [], [] => rfl
  | [], _ :: _ => by rw [decide_eq_false (fun e => by cases e)]; rfl
  | _ :: _, [] => by rw [decide_eq_false (fun e => by cases e)]; rfl
  | a :: r, b :: s => by
    show (PyData.eqv (.str (S a)) (.str (S b)) && PyData.eqvAll (r.map fun c => PyData.str (S c)) (s.map fun c => PyData.str (S c))) = _
    rw [eqvAll_tx r s]
    have e : PyData.eqv (.str (S a)) (.str (S b)) = decide (a = b) := by
      show (S a == S b) = _
      rw [Bool.eq_iff_iff, beq_iff_eq, decide_eq_true_iff]
      exact ⟨fun h => S_inj h, fun h => by rw [h]⟩
    rw [e, Bool.eq_iff_iff, Bool.and_eq_true, decide_eq_true_iff, decide_eq_true_iff, decide_eq_true_iff, List.cons.injEq]
/-! ### lists of texts as data -/
theorem lay_tx : ∀ (cs : List (List Nat)), (∀ c ∈ cs, ∀ k ∈ c, k < 128) → PyData.canLayAll0 (cs.map fun c => PyData.str (S c)) = true
  | [], _ => rfl
  | c :: r, h => by
    show (PyData.canLay0 (.str (S c)) && PyData.canLayAll0 (r.map fun c => PyData.str (S c))) = true
    rw [lay_tx r fun x hx => h x (List.mem_cons_of_mem _ hx), Bool.and_true]
    have h1 := h c (List.mem_cons_self ..)
    show ((c.toArray).all (fun k => decide (k < 1114112))) = true
    rw [List.all_toArray, List.all_eq_true]
    intro k hk
    have := h1 k hk
    exact decide_eq_true (by omega)
theorem dep_tx : ∀ (cs : List (List Nat)), PyData.depthAll (cs.map fun c => PyData.str (S c)) = 0
  | [] => rfl
  | c :: r => by
    show max (PyData.depth (.str (S c))) (PyData.depthAll (r.map fun c => PyData.str (S c))) = 0
    rw [dep_tx r]
    rfl
theorem shp_tx {cs : List (List Nat)} (h : ∀ c ∈ cs, ∀ k ∈ c, k < 128) : SeqAt.shaped (.list (cs.map fun c => PyData.str (S c))) = true := by
  unfold SeqAt.shaped
  have e : (PyData.list (cs.map fun c => PyData.str (S c))).depth = 1 := by
    show PyData.depthAll (cs.map fun c => PyData.str (S c)) + 1 = 1
    rw [dep_tx]
  rw [e]
  show (PyData.canLayAll0 (cs.map fun c => PyData.str (S c)) && decide (1 ≤ 64)) = true
  rw [lay_tx cs h]
  rfl
theorem dp_all {K : PySem.W.Frag} {H : Hp} : ∀ cs : List (List Nat), DpAll K H ((cs.map S).map V.str) (cs.map fun c => PyData.str (S c))
  | [] => .nil
  | c :: r => .cons (.str _) (dp_all r)
theorem small_of {zs : List Nat} {ls : List (List Nat)} (hp : ls.Perm (zs.map fun c => [c])) (h : ∀ c ∈ zs, c < 128) : ∀ c ∈ ls, ∀ k ∈ c, k < 128 := by
  intro c hc k hk
  obtain ⟨x, hx, rfl⟩ := List.mem_map.mp (hp.mem_iff.mp hc)
  rw [List.mem_singleton.mp hk]
  exact h x hx
theorem same_put {H H' : Hp} {p : Addr} {o : HO} (s : Same H H') (h : H p = none) : Same H (upd H' p o) := fun b u e => by
  rw [upd_ne (ne_of_none e h)]
  exact s _ _ e
theorem tau_get {gs t : List Nat} (nd : gs.Nodup) (hl : t.length = gs.length) {i c d : Nat} (h1 : gs[i]? = some c) (h2 : t[i]? = some d) : tau gs t c = d := by
  have h := tau_at (List.mem_of_getElem? h1) hl
  rw [idx_get nd h1, h2] at h
  exact (Option.some.inj h).symm
def keepL (gs t y : List Nat) (zs : List Nat) : List Nat := zs.filter fun c => decide (tau gs t c = tau gs y c)
theorem keepL_snoc {gs t y zs : List Nat} {c : Nat} : keepL gs t y (zs ++ [c]) = keepL gs t y zs ++ (if tau gs t c = tau gs y c then [c] else []) := by
  unfold keepL
  rw [List.filter_append]
  congr 1
  show (match decide (tau gs t c = tau gs y c) with | true => [c] | false => []) = _
  by_cases h : tau gs t c = tau gs y c
  · rw [if_pos h, decide_eq_true h]
  · rw [if_neg h, decide_eq_false h]
theorem keepL_len {gs t y zs : List Nat} : (keepL gs t y zs).length ≤ zs.length := List.length_filter_le _ _
/-! ### the promises -/
def spIs : Sp := fun vs H Q _ => ∃ gs t : List Nat, vs = [.str (S gs), .str (S t)] ∧ gs.length < 64 ∧ t.length < 64 ∧ (∀ c ∈ gs, c < 128) ∧ (∀ c ∈ t, c < 128) ∧
  ∀ H', Same H H' → Q (.bl (decide (t.Perm gs))) H'
def spKp : Sp := fun vs H Q _ => ∃ gs t y : List Nat, vs = [.str (S gs), .str (S t), .str (S y)] ∧ gs.Nodup ∧ gs.length ≤ 1000 ∧ t.length = gs.length ∧ y.length = gs.length ∧
  ∀ H', Same H H' → Q (.str (S (keepL gs t y gs))) H'
def spTX (C : Addr) : Sp := fun vs H _ E => ∃ (gs t xs : List Nat) (i : Nat), vs = [.str (S gs), .str (S t), .str (S xs)] ∧ Bad gs xs i ∧ ∀ H' d, Same H H' →
  H' d = some (.xd [("position", .int (i : Nat)), ("code", .str "UnknownLetter")]) → E (.ref C) (some d) H'
section
variable {K : PySem.W.Frag} {mg : Str → Option Value} {T : List (Addr × Str)} {CF CM C : Addr} {H : Hp} {σ : L2.St} {Q : VK} {x : Str} {ta : TA}
theorem lam_TX {gs t xs : List Nat} {i : Nat} (EC : ErrC K mg x C) (hx : PySem.W.exmAny K (.ref C) [.ref CF, .ref CM] = some true) (hT : LamX.Tabs T H)
    (ha : ∀ H1 (k : List V → Hp → Prop), k [.str (S gs), .str (S t), .str (S xs)] H1 → ta σ H1 k) (hb : Bad gs xs i)
    (q : ∀ H' p, LamX.ExtN H H' → LamX.Tabs T H' → H' p = some (.tup [.str (Str.ofString "UnknownLetter"), .int (i : Nat)]) → Q (.ref p) H') :
    LamX.tLam T (TTry K CF CM) (fun E => tCall (spTX C) [] E ta) σ H Q := by
  refine ⟨hT, fun H1 e1 t1 => ?_⟩
  refine ha H1 _ ⟨gs, t, xs, i, rfl, hb, fun H2 d s2 hd => ⟨hx, _, _, err_ul EC hd, fun H3 p s3 nt => ?_⟩⟩
  exact q _ p (e1.trans (Same.extN ((s2.trans s3).trans (same_new nt)))) (tabs_same t1 ((s2.trans s3).trans (same_new nt))) upd_same
end
/-- three keywords, the second and the third changed about -/
def swp3 {α : Type} : List α → List α → List α
  | [], [a, b, c] => [a, c, b]
  | _, _ => []
theorem swp3_rel {vs : List V} {us : List Value} {zs : List V} {ws : List Value} (r : Vals vs us) (z : Vals zs ws) : Vals (swp3 vs zs) (swp3 us ws) := by
  cases r with
  | cons _ _ => exact .nil
  | nil =>
    cases z with
    | nil => exact .nil
    | cons a z =>
      cases z with
      | nil => exact .nil
      | cons b z =>
        cases z with
        | nil => exact .nil
        | cons c z =>
          cases z with
          | nil => exact .cons a (.cons c (.cons b .nil))
          | cons _ _ => exact .nil
end Own

namespace Own
open PySem PySem.Spec PyProof.Rows L2 SX
/-! ### a list or a tuple walked -/
def SqA (K : PySem.W.Frag) (H : Hp) (a : Addr) (xs : List V) : Prop := SqL K H a xs ∨ SqT K H a xs
theorem SqA.same {K : PySem.W.Frag} {H H' : Hp} {a : Addr} {xs : List V} (h : SqA K H a xs) (s : Same H H') : SqA K H' a xs := h.imp (fun h => s.seq h) (fun h => same_t s h)
theorem pi_or {X : Cx} {tg l : Expr} {w1 w2 : TI} (h1 : PI X tg l w1) (h2 : PI X tg l w2) : PI X tg l (fun σ H R => w1 σ H R ∨ w2 σ H R) :=
  ⟨fun pins s σ H R I h => h.elim (fun h => h1.run pins s σ H R I h) (fun h => h2.run pins s σ H R I h)⟩
def iAny (K : PySem.W.Frag) (tl : TE) : TI := fun σ H R => iList K tl σ H R ∨ iTup K tl σ H R
theorem pi_any {X : Cx} {tg l : Expr} {tl : TE} (h : PE X l tl) : PI X tg l (iAny X.K tl) := pi_or (pi_list h) (pi_tup h)
theorem it_any {K : PySem.W.Frag} {σ : L2.St} {H H0 : Hp} {R : It → Hp → Prop} {a : Addr} {xs : List V} {tl : TE} (h : ∀ k : VK, k (.ref a) H → tl σ H k) (hs : SqA K H0 a xs) (s0 : Same H0 H)
    (hR : ∀ J : It, Walk J xs.length (fun H' => Same H0 H') (fun i H1 x H2 => H2 = H1 ∧ xs[i]? = some x) → R J H) : iAny K tl σ H R := by
  rcases hs with hs | hs
  · refine .inl (h _ ⟨a, rfl, ⟨xs, s0.seq hs⟩, hR _ ?_⟩)
    exact ⟨fun i H' hi s => (walk_list (K := K) (a := a) (xs := xs)).goes i H' hi (s.seq hs), fun H' s => (walk_list (K := K) (a := a) (xs := xs)).stops H' (s.seq hs), fun i H' x H'' hi s y => (walk_list (K := K) (a := a) (xs := xs)).yields i H' x H'' hi (s.seq hs) y⟩
  · refine .inr (h _ ⟨a, rfl, ⟨xs, same_t s0 hs⟩, hR _ ?_⟩)
    exact ⟨fun i H' hi s => (walk_tup (K := K) (a := a) (xs := xs)).goes i H' hi (same_t s hs), fun H' s => (walk_tup (K := K) (a := a) (xs := xs)).stops H' (same_t s hs), fun i H' x H'' hi s y => (walk_tup (K := K) (a := a) (xs := xs)).yields i H' x H'' hi (same_t s hs) y⟩
/-! ### items of templates -/
abbrev tx (c : List Nat) : V := .str (S c)
/-- letters that may be: 2 to 4 different ones -/
def Row (gs : List Nat) (its : List (List Nat)) : Prop := ∀ x ∈ its, (∃ c, c ∈ gs ∧ x = [c]) ∨ x.Perm gs
def iTx (gs x : List Nat) : List Nat := if 1 < x.length then (if x = gs then [123, 125] else [123] ++ x ++ [125]) else x
def rTx (gs : List Nat) (its : List (List Nat)) : List Nat := if its = [] then [45] else (its.map (iTx gs)).flatten
theorem iTx_len {gs x : List Nat} : (iTx gs x).length ≤ x.length + 2 := by
  unfold iTx
  split
  · split
    · show 2 ≤ _
      omega
    · rw [List.length_append, List.length_append]
      show 1 + _ + 1 ≤ _
      omega
  · omega
theorem flat_len {f : List Nat → List Nat} {m : Nat} : ∀ {its : List (List Nat)}, (∀ x ∈ its, (f x).length ≤ m) → (its.map f).flatten.length ≤ its.length * m
  | [], _ => by simp
  | x :: r, h => by
    have h1 := h x (List.mem_cons_self ..)
    have h2 := flat_len (its := r) fun y hy => h y (List.mem_cons_of_mem _ hy)
    show (f x ++ (r.map f).flatten).length ≤ (r.length + 1) * m
    rw [List.length_append, Nat.add_mul]
    omega
theorem sum_len : ∀ ts : List (List Nat), ((ts.map S).map (·.length)).sum = ts.flatten.length
  | [] => rfl
  | x :: r => by
    show (S x).length + ((r.map S).map (·.length)).sum = (x ++ r.flatten).length
    rw [sum_len r, S_len, List.length_append]
/-! ### promises -/
def spBk : Sp := fun vs H Q _ => ∃ x : List Nat, vs = [tx x] ∧ x.length ≤ 1000 ∧ ∀ H', Same H H' → Q (.bl (decide (1 < x.length))) H'
def spIt : Sp := fun vs H Q _ => ∃ gs x : List Nat, vs = [tx gs, tx x] ∧ gs.length ≤ 1000 ∧ x.length ≤ 1000 ∧ ∀ H', Same H H' → Q (tx (iTx gs x)) H'
def spRt (K : PySem.W.Frag) : Sp := fun vs H Q _ => ∃ (gs : List Nat) (a : Addr) (its : List (List Nat)), vs = [tx gs, .ref a] ∧ gs.length ≤ 1000 ∧ SqA K H a (its.map tx) ∧ its.length ≤ 900 ∧ (∀ x ∈ its, x.length ≤ 900) ∧
  ∀ H', Same H H' → Q (tx (rTx gs its)) H'
/-- each item turned -/
def spTr (K : PySem.W.Frag) : Sp := fun vs H Q _ => ∃ (gs t : List Nat) (a : Addr) (its : List (List Nat)), vs = [tx gs, tx t, .ref a] ∧ gs.Nodup ∧ gs.length ≤ 1000 ∧ t.length = gs.length ∧ SqA K H a (its.map tx) ∧ its.length ≤ 900 ∧
  (∀ x ∈ its, x.length ≤ 1000 ∧ ∀ c ∈ x, c ∈ gs) ∧ ∀ H' p, Same H H' → H p = none → H' p = some (.lst ((its.map fun x => x.map (tau gs t)).map tx)) → Q (.ref p) H'
/-- the inner items in the place of each blank -/
def putL (gs : List Nat) (its inn : List (List Nat)) : List (List Nat) := (its.map fun x => if 1 < x.length then inn.map fun y => y.map (tau gs x) else [x]).flatten
def spPut (K : PySem.W.Frag) : Sp := fun vs H Q _ => ∃ (gs : List Nat) (a b : Addr) (its inn : List (List Nat)), vs = [tx gs, .ref a, .ref b] ∧ gs.Nodup ∧ gs.length ≤ 1000 ∧ Row gs its ∧ SqA K H a (its.map tx) ∧ its.length ≤ 900 ∧
  SqA K H b (inn.map tx) ∧ inn.length ≤ 900 ∧ (∀ x ∈ inn, x.length ≤ 1000 ∧ ∀ c ∈ x, c ∈ gs) ∧ ∀ H' p, Same H H' → H p = none → H' p = some (.lst ((putL gs its inn).map tx)) → Q (.ref p) H'
theorem get_tx {cs : List (List Nat)} {i : Nat} {y : V} (h : (cs.map tx)[i]? = some y) : ∃ c, cs[i]? = some c ∧ y = tx c := by
  rw [List.getElem?_map] at h
  cases e : cs[i]? with
  | none => rw [e] at h; cases h
  | some c => rw [e] at h; exact ⟨c, rfl, (Option.some.inj h).symm⟩
end Own

namespace Own
open PySem PySem.Spec PyProof.Rows L2 SX
theorem slice_mid {a : List Nat} {i j : Nat} : Txt.slice (S a) (some (i : Int)) (some (j : Int)) = S ((a.take j).drop i) := by
  rw [← C8.cutS_slice]
  unfold cutS
  show (⟨_⟩ : Str) = _
  congr 1
  rw [HT.sIx_nat, HT.sIx_nat, S_len]
  congr 1
  show (a.drop (min i a.length)).take (min j a.length - min i a.length) = (a.take j).drop i
  rw [List.drop_take]
  by_cases hi : i ≤ a.length
  · rw [Nat.min_eq_left hi]
    by_cases hj : j ≤ a.length
    · rw [Nat.min_eq_left hj]
    · rw [Nat.min_eq_right (by omega), List.take_of_length_le (by rw [List.length_drop]; omega), List.take_of_length_le (by rw [List.length_drop]; omega)]
  · have e : min i a.length = a.length := Nat.min_eq_right (by omega)
    rw [e, List.drop_eq_nil_of_le (Nat.le_refl _), List.drop_eq_nil_of_le (show a.length ≤ i by omega), List.take_nil, List.take_nil]
theorem mid_app {p z q : List Nat} {i j : Int} (h1 : i = (p.length : Int)) (h2 : j = ((p.length + z.length : Nat) : Int)) : Txt.slice (S (p ++ z ++ q)) (some i) (some j) = S z := by
  subst h1
  subst h2
  rw [slice_mid, List.take_append_of_le_length (by rw [List.length_append]; exact Nat.le_refl _), List.take_of_length_le (by rw [List.length_append]; exact Nat.le_refl _), List.drop_left]
/-! ### forms of items -/
inductive Form (gs : List Nat) : List Nat → List Nat → Prop
  | one {c : Nat} : c ∈ gs → Form gs [c] [c]
  | turn {x : List Nat} : x.Perm gs → Form gs x ([123] ++ x ++ [125])
  | plain : Form gs gs [123, 125]
inductive Forms (gs : List Nat) : List (List Nat) → List (List Nat) → Prop
  | nil : Forms gs [] []
  | cons {x z : List Nat} {its zs : List (List Nat)} : Form gs x z → Forms gs its zs → Forms gs (x :: its) (z :: zs)
/-- a text of the items -/
def Rd (gs : List Nat) (its : List (List Nat)) (t : List Nat) : Prop := (its = [] ∧ t = [45]) ∨ (its ≠ [] ∧ ∃ zs, Forms gs its zs ∧ t = zs.flatten)
theorem form_i {gs x : List Nat} (hg : 2 ≤ gs.length) (h : (∃ c, c ∈ gs ∧ x = [c]) ∨ x.Perm gs) : Form gs x (iTx gs x) := by
  rcases h with ⟨c, hc, rfl⟩ | p
  · have e : iTx gs [c] = [c] := by unfold iTx; rw [if_neg (by show ¬ 1 < 1; omega)]
    rw [e]
    exact .one hc
  · have hl : 1 < x.length := by rw [p.length_eq]; omega
    unfold iTx
    rw [if_pos hl]
    split
    · rename_i e
      rw [e]
      exact .plain
    · exact .turn p
theorem forms_r {gs : List Nat} (hg : 2 ≤ gs.length) : ∀ {its : List (List Nat)}, Row gs its → Forms gs its (its.map (iTx gs))
  | [], _ => .nil
  | x :: r, h => .cons (form_i hg (h x (List.mem_cons_self ..))) (forms_r hg fun y hy => h y (List.mem_cons_of_mem _ hy))
theorem rd_r {gs : List Nat} (hg : 2 ≤ gs.length) {its : List (List Nat)} (h : Row gs its) : Rd gs its (rTx gs its) := by
  unfold rTx
  by_cases e : its = []
  · rw [if_pos e]
    exact .inl ⟨e, rfl⟩
  · rw [if_neg e]
    exact .inr ⟨e, _, forms_r hg h, rfl⟩
theorem form_ne {gs x z : List Nat} (h : Form gs x z) : z ≠ [] := by
  cases h <;> simp
theorem form_head {gs x z : List Nat} (hg : Good gs) (h : Form gs x z) : ∃ c r, z = c :: r ∧ c ≠ 45 := by
  cases h with
  | one hc => exact ⟨_, _, rfl, by have := hg.az _ hc; omega⟩
  | turn p => exact ⟨123, _, rfl, by decide⟩
  | plain => exact ⟨123, _, rfl, by decide⟩
/-! ### promises -/
def spBw : Sp := fun vs H Q _ => ∃ (gs pre post x z : List Nat), vs = [tx gs, tx (pre ++ z ++ post), .int (pre.length : Int)] ∧ Good gs ∧ (pre ++ z ++ post).length ≤ 1000 ∧
  ((z = [123, 125] ∧ ∀ H', Same H H' → Q (.int 2) H') ∨ (x.Perm gs ∧ z = [123] ++ x ++ [125] ∧ ∀ H', Same H H' → Q (.int ((gs.length : Int) + 2)) H'))
def spRd : Sp := fun vs H Q _ => ∃ (gs t : List Nat) (its : List (List Nat)), vs = [tx gs, tx t] ∧ Good gs ∧ t.length ≤ 1000 ∧ Rd gs its t ∧
  ∀ H' p, Same H H' → H p = none → H' p = some (.lst (its.map tx)) → Q (.ref p) H'
def spCLn : Sp := fun vs H Q _ => ∃ gs : List Nat, vs = [tx gs] ∧ Good gs ∧ ∀ H', Same H H' → Q .non H'
/-! ### templates as they lie -/
/-- the template at a: its letters and its items -/
def Tm (C : Addr) (H : Hp) (a : Addr) (gs : List Nat) (its : List (List Nat)) : Prop :=
  ∃ dx p, H a = some (.ins C dx [(Str.ofString "alphabet", tx gs), (Str.ofString "places", V.ref p)]) ∧ H p = some (.tup (its.map tx))
theorem Tm.same {C : Addr} {H H' : Hp} {a : Addr} {gs : List Nat} {its : List (List Nat)} (t : Tm C H a gs its) (s : Same H H') : Tm C H' a gs its := by
  obtain ⟨dx, p, h1, h4⟩ := t
  exact ⟨dx, p, s _ _ h1, s _ _ h4⟩
theorem Tm.go {C : Addr} {H H' : Hp} {a r : Addr} {gs : List Nat} {its : List (List Nat)} (t : Tm C H a gs its) (g : Go r H H') : Tm C H' a gs its := by
  obtain ⟨dx, p, h1, h4⟩ := t
  obtain ⟨xs, er⟩ := g.rng0.ex
  exact ⟨dx, p, g.1 _ _ (ne_of h1 er fun e => by cases e) h1, g.1 _ _ (ne_of h4 er fun e => by cases e) h4⟩
/-- the class -/
structure TmC (K : PySem.W.Frag) (C : Addr) : Prop where
  cls : Cls K C
  na : NoAttr K C "alphabet"
  np : NoAttr K C "places"
/-- __init__: the new instance x gets its two fields -/
def spTi (C : Addr) : Sp := fun vs H Q _ => ∃ (x dx : Addr) (gs t : List Nat) (its : List (List Nat)), vs = [.ref x, tx gs, tx t] ∧ H x = some (.ins C dx []) ∧ Good gs ∧ t.length ≤ 1000 ∧ Rd gs its t ∧
  ∀ H', (∀ b o, b ≠ x → H b = some o → H' b = some o) → Tm C H' x gs its → Q .non H'
def spRow (C : Addr) : Sp := fun vs H Q _ => ∃ (a : Addr) (gs : List Nat) (its : List (List Nat)), vs = [.ref a] ∧ Tm C H a gs its ∧ ∀ H' p, Same H H' → H p = none → H' p = some (.lst (its.map tx)) → Q (.ref p) H'
def spText (C : Addr) : Sp := fun vs H Q _ => ∃ (a : Addr) (gs : List Nat) (its : List (List Nat)), vs = [.ref a] ∧ Tm C H a gs its ∧ gs.length ≤ 1000 ∧ its.length ≤ 900 ∧ (∀ x ∈ its, x.length ≤ 900) ∧ ∀ H', Same H H' → Q (tx (rTx gs its)) H'
def fillL (gs : List Nat) (its : List (List Nat)) (xs : List Nat) : List Nat := (putL gs its [xs]).flatten
def spFi (C : Addr) : Sp := fun vs H Q _ => ∃ (a : Addr) (gs : List Nat) (its : List (List Nat)) (xs : List Nat), vs = [.ref a, tx xs] ∧ Tm C H a gs its ∧ Good gs ∧ Row gs its ∧ its.length ≤ 900 ∧ xs.length ≤ 1000 ∧ (∀ c ∈ xs, c ∈ gs) ∧
  ∀ H', Same H H' → Q (tx (fillL gs its xs)) H'
def spWr (K : PySem.W.Frag) (C : Addr) : Sp := fun vs H Q _ => ∃ (a b : Addr) (gs : List Nat) (its0 its : List (List Nat)), vs = [.ref a, .ref b] ∧ Tm C H a gs its0 ∧ Good gs ∧ Row gs its ∧ SqA K H b (its.map tx) ∧ its.length ≤ 160 ∧
  ∀ H' p, Same H H' → H p = none → Tm C H' p gs its → Q (.ref p) H'
def spTt (C : Addr) : Sp := fun vs H Q _ => ∃ (a : Addr) (gs t : List Nat) (its : List (List Nat)), vs = [.ref a, tx t] ∧ Tm C H a gs its ∧ Good gs ∧ t.Perm gs ∧ Row gs its ∧ its.length ≤ 160 ∧
  ∀ H' p, Same H H' → H p = none → Tm C H' p gs (its.map fun x => x.map (tau gs t)) → Q (.ref p) H'
theorem row_len {gs : List Nat} (hg : Good gs) {its : List (List Nat)} (h : Row gs its) : ∀ x ∈ its, x.length ≤ 4 := by
  intro x hx
  have := hg.hi
  rcases h x hx with ⟨c, _, rfl⟩ | p
  · show 1 ≤ 4; omega
  · rw [p.length_eq]; exact hg.hi
theorem row_mem {gs : List Nat} {its : List (List Nat)} (h : Row gs its) : ∀ x ∈ its, ∀ c ∈ x, c ∈ gs := by
  intro x hx c hc
  rcases h x hx with ⟨d, hd, rfl⟩ | p
  · rw [List.mem_singleton.mp hc]; exact hd
  · exact p.mem_iff.mp hc
theorem rTx_len {gs : List Nat} (hg : Good gs) {its : List (List Nat)} (h : Row gs its) (hl : its.length ≤ 160) : (rTx gs its).length ≤ 1000 := by
  unfold rTx
  split
  · show 1 ≤ 1000; omega
  · have := flat_len (f := iTx gs) (m := 6) (its := its) fun x hx => Nat.le_trans iTx_len (by have := row_len hg h x hx; omega)
    omega
theorem row_tau {gs t : List Nat} (hg : Good gs) (ht : t.Perm gs) {its : List (List Nat)} (h : Row gs its) : Row gs (its.map fun x => x.map (tau gs t)) := by
  intro y hy
  obtain ⟨x, hx, rfl⟩ := List.mem_map.mp hy
  rcases h x hx with ⟨c, hc, rfl⟩ | p
  · exact .inl ⟨tau gs t c, ht.mem_iff.mp (tau_mem hc ht.length_eq), rfl⟩
  · exact .inr (mul_perm hg.nd p ht)
theorem put_len {gs : List Nat} {its inn : List (List Nat)} {m : Nat} (hm : 1 ≤ m) (h : inn.length ≤ m) : (putL gs its inn).length ≤ its.length * m := by
  unfold putL
  induction its with
  | nil => exact Nat.zero_le _
  | cons x r ih =>
    rw [List.map_cons, List.flatten_cons, List.length_append, List.length_cons, Nat.add_mul]
    have : (if 1 < x.length then inn.map fun y => y.map (tau gs x) else [x]).length ≤ m := by
      split
      · rw [List.length_map]; exact h
      · exact hm
    omega
end Own

namespace Own
open PySem PySem.Spec PyProof.Rows L2 SX
/-- o.m(k = v, ..) -/
def tMethK (C : Addr) (m : Str) (sp : Sp) (gV : List V → List V → List V) (E : XK) (ta : TE) (tk : TA) : TE := fun σ H Q => ta σ H fun x H1 => ∃ a dx fs, x = .ref a ∧ H1 a = some (.ins C dx fs) ∧ fs.lookup m = none ∧
  tk σ H1 fun zs H2 => sp (gV [.ref a] zs) H2 Q E
theorem pe_mkw {X : Cx} {CX : CXT} {k : Nat} {C f : Addr} {fd : FuncData} {ps ks : List Str} {sp : Sp} {m : Str} {apos pos : Pos} {o : Expr} {kws : List Keyword} {ta : TE} {tk : TA} {E : XK} {g : List Value → List Value → List Value} {gV : List V → List V → List V} {pl : Sem Bool}
    (he : PE X o ta) (c : Cls X.K C) (hm : Meth X.K C m f) (F : FnOk X.prog X.w X.K X.mg X.base CX k f fd ps sp) (hr : Room k X.A) (hb : KBinds X.K fd ps ks g gV) (hx : Passes CX X E) (hkw : PK X kws tk)
    (hall : (backToKw pos (keywordEach kws X.env)).all (·.1.isSome) = true := by rfl)
    (hks : (backToKw pos (keywordEach kws X.env)).filterMap (·.1) = ks := by rfl)
    (hpl : ((backTo pos (starEach [] X.env)).any (·.1) || (backToKw pos (keywordEach kws X.env)).any (·.1.isNone)) = false := by rfl)
    (ht : eval (.Call (.Attribute o m apos) [] kws pos) X.env = (do
      let ov ← eval o X.env
      standAt apos.atName
      let (f, first) ← holding [ov] (getMethod ov m pl)
      callWith pos f first (backTo pos (starEach [] X.env)) (backToKw pos (keywordEach kws X.env))) := by rfl) :
    PE X (.Call (.Attribute o m apos) [] kws pos) (tMethK C m sp gV E ta tk) := by
  constructor
  intro pins s σ H Q I h
  refine PySem.W.methodCall_KW (pl := pl) (thn (he.run pins s σ H _ I h) ?_) ht
  rintro u s1 ⟨_, H1, I1, rx, a, dx, fs, rfl, lies, free, q⟩
  have eu : u = .ref a := rx
  subst eu
  refine getmeth_ok I1 lies c hm free (PySem.W.callWith_KW0 (first := [.ref a]) (h₀ := X.base) I.ok.mod.kin hm.kp hall (thn (hkw.run pos pins s1 σ H1 _ I1 q) ?_) hpl)
  rintro ws s2 ⟨zs, H2, I2, rz, asks⟩
  refine ⟨I2.kIn, ?_⟩
  rw [hks]
  exact run_fnk (us := [.ref a]) (vs := [.ref a]) F hr hb hx I2 (.cons rfl .nil) rz asks
/-- one positional, one keyword -/
def cat2 {α : Type} : List α → List α → List α
  | [a], [b] => [a, b]
  | _, _ => []
theorem cat2_rel {vs : List V} {us : List Value} {zs : List V} {ws : List Value} (r : Vals vs us) (z : Vals zs ws) : Vals (cat2 vs zs) (cat2 us ws) := by
  cases r with
  | nil => exact .nil
  | cons a r =>
    cases r with
    | cons _ _ => exact .nil
    | nil =>
      cases z with
      | nil => exact .nil
      | cons b z =>
        cases z with
        | nil => exact .cons a (.cons b .nil)
        | cons _ _ => exact .nil
/-! ### promises of the laws' own helpers -/
def spItems : Sp := fun vs H Q _ => ∃ (r : Addr) (gs : List Nat) (m : Int), vs = [.ref r, tx gs, .int m] ∧ Good gs ∧ 0 ≤ m ∧ m ≤ 100 ∧ Rng H r ∧
  ∀ H' p its, Go r H H' → H p = none → H' p = some (.lst (its.map tx)) → Row gs its → (its.length : Int) ≤ m → Q (.ref p) H'
def spLx (K : PySem.W.Frag) : Sp := fun vs H Q _ => ∃ (gs : List Nat) (a : Addr) (its : List (List Nat)), vs = [tx gs, .ref a] ∧ Good gs ∧ Row gs its ∧ its.length ≤ 100 ∧ SqL K H a (its.map tx) ∧ ∀ H', Same H H' → Q (tx (rTx gs its)) H'
def spLf (K : PySem.W.Frag) : Sp := fun vs H Q _ => ∃ (gs : List Nat) (a : Addr) (its : List (List Nat)) (xs : List Nat), vs = [tx gs, .ref a, tx xs] ∧ Good gs ∧ Row gs its ∧ its.length ≤ 100 ∧ SqL K H a (its.map tx) ∧ xs.length ≤ 1000 ∧ (∀ c ∈ xs, c ∈ gs) ∧
  ∀ H', Same H H' → Q (tx (fillL gs its xs)) H'
def spLt (K : PySem.W.Frag) (C : Addr) : Sp := fun vs H Q _ => ∃ (gs : List Nat) (a : Addr) (its : List (List Nat)), vs = [tx gs, .ref a] ∧ Good gs ∧ Row gs its ∧ its.length ≤ 100 ∧ SqL K H a (its.map tx) ∧ ∀ H' p, Same H H' → H p = none → Tm C H' p gs its → Q (.ref p) H'
def blL (l : List (List Nat)) : List (List Nat) := l.filter fun x => decide (1 < x.length)
def ltL (l : List (List Nat)) : List (List Nat) := l.filter fun x => !decide (1 < x.length)
def nBl (its : List (List Nat)) : Nat := (blL its).length
def nLt (its : List (List Nat)) : Nat := (ltL its).length
theorem blL_len {l : List (List Nat)} : (blL l).length ≤ l.length := List.length_filter_le _ _
theorem ltL_len {l : List (List Nat)} : (ltL l).length ≤ l.length := List.length_filter_le _ _
theorem blL_snoc {l : List (List Nat)} {x : List Nat} : blL (l ++ [x]) = blL l ++ (if 1 < x.length then [x] else []) := by
  unfold blL
  rw [List.filter_append]
  congr 1
  show (match decide (1 < x.length) with | true => [x] | false => []) = _
  by_cases h : 1 < x.length
  · rw [if_pos h, decide_eq_true h]
  · rw [if_neg h, decide_eq_false h]
theorem ltL_snoc {l : List (List Nat)} {x : List Nat} : ltL (l ++ [x]) = ltL l ++ (if 1 < x.length then [] else [x]) := by
  unfold ltL
  rw [List.filter_append]
  congr 1
  show (match !decide (1 < x.length) with | true => [x] | false => []) = _
  by_cases h : 1 < x.length
  · rw [if_pos h, decide_eq_true h]; rfl
  · rw [if_neg h, decide_eq_false h]; rfl
theorem bl_lt : ∀ its : List (List Nat), nBl its + nLt its = its.length
  | [] => rfl
  | x :: r => by
    have ih := bl_lt r
    unfold nBl nLt blL ltL at ih ⊢
    rw [List.filter_cons, List.filter_cons, List.length_cons]
    by_cases h : 1 < x.length
    · rw [if_pos (decide_eq_true h), if_neg (by rw [decide_eq_true h]; decide), List.length_cons]
      omega
    · rw [if_neg (by rw [decide_eq_false h]; decide), if_pos (by rw [decide_eq_false h]; rfl), List.length_cons]
      omega
def spPb (C : Addr) : Sp := fun vs H Q _ => ∃ (a : Addr) (gs : List Nat) (its : List (List Nat)), vs = [.ref a] ∧ Tm C H a gs its ∧ its.length ≤ 900 ∧ (∀ x ∈ its, x.length ≤ 900) ∧ ∀ H', Same H H' → Q (.int (nBl its : Nat)) H'
def spPs (C : Addr) : Sp := fun vs H Q _ => ∃ (a : Addr) (gs : List Nat) (its : List (List Nat)), vs = [.ref a] ∧ Tm C H a gs its ∧ its.length ≤ 900 ∧ (∀ x ∈ its, x.length ≤ 900) ∧ ∀ H', Same H H' → Q (.int (nLt its : Nat)) H'
def spLn (C : Addr) : Sp := fun vs H Q _ => ∃ (a : Addr) (gs : List Nat) (its : List (List Nat)) (n : Int), vs = [.ref a, .int n] ∧ Tm C H a gs its ∧ its.length ≤ 900 ∧ (∀ x ∈ its, x.length ≤ 900) ∧ CMul (nBl its : Nat) n ∧
  ∀ H', Same H H' → Q (.int ((nLt its : Nat) + (nBl its : Nat) * n)) H'
def spFX (C CT : Addr) : Sp := fun vs H _ E => ∃ (a : Addr) (gs : List Nat) (its : List (List Nat)) (xs : List Nat) (i : Nat), vs = [.ref a, tx xs] ∧ Tm C H a gs its ∧ Bad gs xs i ∧ ∀ H' d, Same H H' →
  H' d = some (.xd [("position", .int (i : Nat)), ("code", .str "UnknownLetter")]) → E (.ref CT) (some d) H'
theorem Tm.ext {C : Addr} {H H' : Hp} {a : Addr} {gs : List Nat} {its : List (List Nat)} (t : Tm C H a gs its) (e : LamX.ExtN H H') : Tm C H' a gs its := by
  obtain ⟨dx, p, h1, h4⟩ := t
  exact ⟨dx, p, e _ _ h1 (fun ps h => by cases h), e _ _ h4 (fun ps h => by cases h)⟩
def spLb (K : PySem.W.Frag) : Sp := fun vs H Q _ => ∃ (a : Addr) (its : List (List Nat)), vs = [.ref a] ∧ its.length ≤ 900 ∧ (∀ x ∈ its, 0 < x.length ∧ x.length ≤ 900) ∧ SqL K H a (its.map tx) ∧ ∀ H', Same H H' → Q (.int (nBl its : Nat)) H'
def lf1 (gs : List Nat) (xs x : List Nat) : List Nat := if x.length = 1 then x else xs.map (tau gs x)
theorem lf_eq {gs : List Nat} (hg : Good gs) {its : List (List Nat)} (h : Row gs its) (xs : List Nat) : (its.map (lf1 gs xs)).flatten = fillL gs its xs := by
  unfold fillL putL
  induction its with
  | nil => rfl
  | cons x r ih =>
    have ih := ih fun y hy => h y (List.mem_cons_of_mem _ hy)
    rw [List.map_cons, List.flatten_cons, ih, List.map_cons, List.flatten_cons, List.flatten_append]
    congr 1
    have hx := h x (List.mem_cons_self ..)
    unfold lf1
    rcases hx with ⟨c, _, rfl⟩ | p
    · rw [if_pos (show [c].length = 1 from rfl), if_neg (by show ¬ 1 < 1; omega)]
      simp
    · have := p.length_eq
      have := hg.lo
      rw [if_neg (by omega), if_pos (by omega)]
      simp
theorem row_pos {gs : List Nat} (hg : Good gs) {its : List (List Nat)} (h : Row gs its) : ∀ x ∈ its, 0 < x.length := by
  intro x hx
  rcases h x hx with ⟨c, _, rfl⟩ | p
  · show 0 < 1; omega
  · rw [p.length_eq]; have := hg.lo; omega
theorem fill_len {gs : List Nat} (hg : Good gs) {its : List (List Nat)} (h : Row gs its) (xs : List Nat) : (fillL gs its xs).length = nLt its + nBl its * xs.length := by
  rw [← lf_eq hg h]
  induction its with
  | nil => simp [nLt, nBl, ltL, blL]
  | cons x r ih =>
    have ih := ih fun y hy => h y (List.mem_cons_of_mem _ hy)
    rw [List.map_cons, List.flatten_cons, List.length_append, ih]
    have hx := h x (List.mem_cons_self ..)
    have hl : nLt (x :: r) = (if 1 < x.length then 0 else 1) + nLt r := by
      unfold nLt ltL
      rw [List.filter_cons]
      by_cases h1 : 1 < x.length
      · rw [if_neg (by rw [decide_eq_true h1]; decide), if_pos h1, Nat.zero_add]
      · rw [if_pos (by rw [decide_eq_false h1]; rfl), if_neg h1, List.length_cons]
        omega
    have hb : nBl (x :: r) = (if 1 < x.length then 1 else 0) + nBl r := by
      unfold nBl blL
      rw [List.filter_cons]
      by_cases h1 : 1 < x.length
      · rw [if_pos (decide_eq_true h1), if_pos h1, List.length_cons]
        omega
      · rw [if_neg (by rw [decide_eq_false h1]; decide), if_neg h1, Nat.zero_add]
    rw [hl, hb, Nat.add_mul]
    rcases hx with ⟨c, _, rfl⟩ | p
    · have e : lf1 gs xs [c] = [c] := by unfold lf1; rw [if_pos (show [c].length = 1 from rfl)]
      rw [e, if_neg (by show ¬ 1 < 1; omega), if_neg (by show ¬ 1 < 1; omega)]
      show 1 + _ = _
      omega
    · have hpl := p.length_eq
      have hlo := hg.lo
      have e : lf1 gs xs x = xs.map (tau gs x) := by unfold lf1; rw [if_neg (by omega)]
      rw [e, List.length_map, if_pos (by omega), if_pos (by omega)]
      omega
end Own

namespace Own
open PySem PySem.Spec PyProof.Rows L2 SX
/-! ### x[::-1] of texts and of tuples -/
/-- the slice object that [::-1] makes -/
def BackAt (h : Heap) (a : Addr) (t : Tok) : Prop := h.get? a = some { cls := .type "slice", data := .fields #[.none, .none, .int (-1) t] }
/-- x[::-1], told by what getItem gives of it -/
theorem pe_back {X : Cx} {e : Expr} {te : TE} {k : Nat} {p1 p2 p3 pos : Pos} {G : V → Hp → VK → Prop} (he : PE X e te)
    (hG : ∀ pins s σ H x u a t Q, Inv X pins σ H s → RelV x u → BackAt s.heap a t → G x H Q →
      ∃ T id, typeLookup (.type T) "__getitem__" = pure (some (.builtin id)) ∧ s.TypeIs u T ∧ wpAny (model X.prog X.w) X.A (getItem u (.ref a)) (EP X pins σ Q) X.xe s) :
    PE X (.Subscript e (.Slice none none (some (.UnaryOp .USub (.Constant (.int 1) k p1) p2)) p3) pos) (fun σ H Q => te σ H fun x H1 => G x H1 Q) := by
  constructor
  intro pins s σ H Q I h
  have minus : PO X (some (.UnaryOp .USub (.Constant (.int 1) k p1) p2)) _ := po_some (pe_un un_neg pe_int)
  refine Subscript_ (thn (he.run pins s σ H _ I h) ?_)
  rintro u s1 ⟨x, H1, I1, rx, g⟩
  refine wpAny_Slice ?_
  rw [evalPart_none]
  refine wpAny_pure (wpAny_pure (thn (minus.run pins s1 σ H1 (fun o H2 => o = some (-1) ∧ H2 = H1) I1 ⟨1, rfl, -1, rfl, rfl, rfl⟩) ?_))
  rintro v s2 ⟨_, _, I2, part, rfl, rfl⟩
  cases part with
  | int _ t =>
  have made : BackAt (s2.heap.push { cls := .type "slice", data := .fields #[.none, .none, .int (-1) t] }) s2.heap.objs.size t := Heap.get?_push_size _ rfl
  obtain ⟨T, id, look, ty, run⟩ := hG pins { s2 with heap := s2.heap.push { cls := .type "slice", data := .fields #[.none, .none, .int (-1) t] } } σ _ x u _ t Q (I2.kept (t' := s2.toks) fun _ _ q => Heap.get?_push_of_some _ q) rx made g
  exact tail_any (ops := [u, .ref s2.heap.objs.size]) ty look run (by with_unfolding_all rfl)
theorem back_range (n : Nat) : Builtin.Str.strSliceIndices none none (-1) n = (List.range n).reverse := by
  show sliceRange ((n : Int) - 1) (-1) (-1) = _
  rw [PySem.W.krv_sliceRange, PySem.W.krv_range]
theorem back_list {α : Type} (xs : List α) : ((List.range xs.length).reverse).filterMap (xs[·]?) = xs.reverse := by
  rw [List.filterMap_reverse]
  congr 1
  induction xs with
  | nil => rfl
  | cons x r ih =>
    rw [List.length_cons, List.range_succ_eq_map, List.filterMap_cons]
    show x :: _ = _
    rw [List.filterMap_map]
    congr 1
def gBackS : V → Hp → VK → Prop := fun x H Q => ∃ z : Str, x = .str z ∧ z.cps.size ≤ sizeLine ∧ Q (.str ⟨z.cps.reverse⟩) H
def tBackS (te : TE) : TE := fun σ H Q => te σ H fun x H1 => gBackS x H1 Q
theorem pe_backS {X : Cx} {e : Expr} {te : TE} {k : Nat} {p1 p2 p3 pos : Pos} (he : PE X e te) :
    PE X (.Subscript e (.Slice none none (some (.UnaryOp .USub (.Constant (.int 1) k p1) p2)) p3) pos) (tBackS te) := by
  refine pe_back (G := gBackS) he ?_
  rintro pins s σ H x u a t Q I rx at_ ⟨z, rfl, line, q⟩
  obtain ⟨tk, rfl⟩ := rx
  refine ⟨"str", _, F.slot_str_getitem.lookup, typeIs_str s z tk, ?_⟩
  refine wpAny_getItem_str_slice (l := none) (u := none) (st := some (-1, t)) ⟨_, at_, rfl, rfl⟩ rfl ?_
  have e : sliceMade z tk none none (some (-1, t)) = .str ⟨z.cps.reverse⟩ := by
    unfold sliceMade
    rw [if_neg (by show ¬ (((-1 : Int) == 1) && _) = true; rw [show ((-1 : Int) == 1) = false from rfl, Bool.false_and]; exact Bool.false_ne_true)]
    congr 2
    show ((Builtin.Str.strSliceIndices none none (-1) z.length).filterMap (z.cps[·]?)).toArray = _
    rw [back_range]
    have := back_list z.cps.toList
    simp only [Array.length_toList, Array.getElem?_toList] at this
    show ((List.range z.cps.size).reverse.filterMap (z.cps[·]?)).toArray = _
    rw [this, ← Array.toList_reverse, Array.toArray_toList]
  rw [e]
  exact ⟨by show z.cps.reverse.size ≤ sizeLine; rw [Array.size_reverse]; exact line, .str _, H, I.tok _, ⟨_, rfl⟩, q⟩
def gBackT (K : PySem.W.Frag) : V → Hp → VK → Prop := fun x H Q => ∃ (a : Addr) (xs : List V), x = .ref a ∧ SqT K H a xs ∧ ∀ p, H p = none → Q (.ref p) (upd H p (.tup xs.reverse))
def tBackT (K : PySem.W.Frag) (te : TE) : TE := fun σ H Q => te σ H fun x H1 => gBackT K x H1 Q
/-- the places that [::-1] takes: all, from the last one on -/
theorem back_applied {P : Program} {w : World} {A : Around} {E : Value → Shared → Prop} {s : Shared} {a : Addr} {t : Tok} {n : Nat} {Q : Int × Int × Nat → Shared → Prop} (at_ : BackAt s.heap a t)
    (q : Q ((n : Int) - 1, -1, n) s) : wpAny (model P w) A (Builtin.Slice.sliceApplied (.ref a) (pure (n : Int))) Q E s := by
  unfold Builtin.Slice.sliceApplied Builtin.Slice.sliceFields
  refine wpAny_bind (wpAny_bind (wpAny_field at_ rfl (x := .none) rfl (wpAny_bind (wpAny_field at_ rfl (x := .none) rfl (wpAny_bind (wpAny_field at_ rfl (x := .int (-1) t) rfl (wpAny_pure ?_)))))))
  refine wpAny_bind (HT.slicePart_ (.int (-1) t) ?_)
  rw [if_neg (by decide)]
  refine wpAny_bind (HT.slicePart_ .none (wpAny_bind (HT.slicePart_ .none (wpAny_bind (wpAny_pure ?_)))))
  have places : Builtin.Slice.slicePlaces ((n : Int) - 1) (-1) (-1) = n := by
    unfold Builtin.Slice.slicePlaces
    rw [if_neg (by decide)]
    split
    · rw [show ((n : Int) - 1 - -1 - 1) = (n : Int) - 1 by omega, show -(-1 : Int) = 1 from rfl, Int.ediv_one]
      omega
    · show (0 : Int).toNat = n
      omega
  refine wpAny_pure ?_
  show Q ((n : Int) - 1, -1, Builtin.Slice.slicePlaces ((n : Int) - 1) (-1) (-1)) s
  rw [places]
  exact q
theorem back_items (xs : Array Value) : ((List.range xs.size).filterMap fun (k : Nat) => xs[((xs.size : Int) - 1 + (k : Int) * -1).toNat]?).toArray = xs.reverse := by
  apply Array.toList_inj.mp
  rw [Array.toList_reverse, ← back_list xs.toList]
  have e : (List.range xs.toList.length).reverse = (List.range xs.size).map fun k => xs.size - 1 - k := by
    apply List.ext_getElem
    · simp
    · intro i h1 h2
      simp
  rw [e, List.filterMap_map]
  show List.filterMap _ _ = _
  refine congrArg (fun f => List.filterMap f (List.range xs.size)) ?_
  funext k
  show xs[((xs.size : Int) - 1 + (k : Int) * -1).toNat]? = xs.toList[xs.size - 1 - k]?
  rw [Array.getElem?_toList]
  by_cases h : k < xs.size
  · congr 1
    omega
  · have e1 : ((xs.size : Int) - 1 + (k : Int) * -1).toNat = 0 := by omega
    have e2 : xs.size - 1 - k = 0 := by omega
    rw [e1, e2]
theorem pe_backT {X : Cx} {e : Expr} {te : TE} {k : Nat} {p1 p2 p3 pos : Pos} (he : PE X e te) :
    PE X (.Subscript e (.Slice none none (some (.UnaryOp .USub (.Constant (.int 1) k p1) p2)) p3) pos) (tBackT X.K te) := by
  refine pe_back (G := gBackT X.K) he ?_
  rintro pins s σ H x u a t Q I rx at_ ⟨b, xs, rfl, hx, q⟩
  have eu : u = .ref b := rx
  subst eu
  obtain ⟨its, rel, tup, line⟩ := I.tuple hx
  have size : its.toArray.size ≤ sizeLine := by rw [List.size_toArray, ← rel.length]; exact line
  refine ⟨"tuple", _, PyProof.Rows.slot_tuple_getitem.lookup, tup.typeIs, ?_⟩
  have key : s.TypeIs (.ref a) "slice" := ⟨_, at_, rfl⟩
  have made : EP X pins σ Q (.ref s.heap.objs.size) { s with heap := s.heap.push { cls := .type "tuple", data := .seq its.toArray.reverse } } := by
    refine ⟨.ref s.heap.objs.size, _, I.laid (t' := s.toks) (o := .tup xs.reverse) (fun _ _ q => Heap.get?_push_of_some _ q) (Nat.le_refl _) ?_, rfl, q _ (I.hok.fresh (Nat.le_refl _))⟩
    refine ⟨by rw [List.length_reverse]; exact line, its.reverse, rel.reverse, ?_⟩
    rw [List.reverse_toArray]
    exact IsTup.new _ _
  unfold getItem
  refine wpAny_holding (wpAny_bind (wpAny_sequenceKey tup.typeIs (by decide) (wpAny_bind (wpAny_callSpecial?_slot (name := Str.ofString "__getitem__") tup.typeIs PyProof.Rows.slot_tuple_getitem
    (wpAny_call_entry PyProof.Rows.slot_tuple_getitem tup.typeIs PyProof.Rows.entry_tuple_getitem ?_ (PyProof.Rows.args_tuple_getitem _ _))))))
  refine wpAny_bind (m := Builtin.Tuple.tupleItemsOf (.ref b)) (tupleItemsOf_ tup (wpAny_bind (wpAny_typeOf key ?_)))
  rw [if_pos (by decide)]
  refine wpAny_bind (back_applied at_ ?_)
  have no : ¬ ((((its.toArray.size : Int) - 1 == 0) && ((-1 : Int) == 1) && (its.toArray.size == its.toArray.size)) = true) := by
    rw [show ((-1 : Int) == 1) = false from rfl, Bool.and_false, Bool.false_and]
    exact Bool.false_ne_true
  dsimp only
  rw [if_neg no, back_items]
  refine wpAny_bind (m := Builtin.Tuple.tupleExact its.toArray.reverse) (wpAny_newObj_type (wpAny_pure ⟨_, rfl, wpAny_pure made⟩) ?_)
  show its.toArray.reverse.size ≤ sizeLine
  rw [Array.size_reverse]
  exact size
end Own

namespace Own
open PySem PySem.Spec PyProof.Rows L2 SX
/-! ### a == b, a != b of two instances of one class, by its own __eq__, either answer -/
theorem ne_bind (self : Value) : bindSpecial (.builtin "object.__ne__") self = pure (.builtin "object.__ne__", [self]) :=
  (Slot.of (T := "object") (name := "__ne__") (owner := "object") (n := "__ne__") (by rw [typeLookup_type, builtinLookup_eq_fast]; kernel_rfl) (by decide +kernel) (by decide +kernel) (by decide +kernel)
    (.inl (by decide +kernel)) (by rw [isSubtype_type]; kernel_rfl)).bind self
section
variable {P : Program} {w : World} {A : Around} {E : Value → Shared → Prop} {s : Shared} {K : PySem.W.Frag} {x y C f : Addr} {ox oy : Obj} {dx dy : Option Obj}
/-- the object's own != asks ==, and turns the answer about -/
theorem ne_asks_eq {Q : Value → Shared → Prop} (X : K.In s.heap) (I : PySem.W.InstAt s.heap x ox C dx) (J : PySem.W.InstAt s.heap y oy C dy) (un : A.units + 1 < cLine)
    (ne : PySem.W.findIn K (.ref C) "__ne__" = some (some (.builtin "object.__ne__"))) (ob : PySem.W.mroIn K C (.type "object") = some true)
    (eq : PySem.W.findIn K (.ref C) "__eq__" = some (some (.ref f))) (fn : PySem.W.isFn K (.ref f) = true)
    (h : wpAny (model P w) A.in1 (call (.ref f) [.ref x, .ref y]) (fun v s' => ∃ b, v = .bool b ∧ Q (.bool (!b)) s') E s) :
    wpAny (model P w) A (richCompare .NotEq (.ref x) (.ref y)) Q E s := by
  have LX := I.type (M := model P w)
  have LY := J.type (M := model P w)
  have LN := PySem.W.looks_findIn (M := model P w) X ne
  have LB : PySem.W.Looks (model P w) s.heap (bindSpecial (.builtin "object.__ne__") (.ref x)) (.builtin "object.__ne__", [.ref x]) := PySem.W.Looks.of_pure (ne_bind _)
  have LI : PySem.W.Looks (model P w) s.heap (isInstance (.ref x) (.type "object")) true := by
    unfold isInstance
    exact LX.andThen (PySem.W.looks_mroIn X ob)
  have body : wpAny (model P w) A (call (.builtin "object.__ne__") [.ref x, .ref y]) (fun v s' => ∃ b, v = .bool b ∧ Q v s') E s := by
    refine wpAny_call (codeAny_call_builtin (by decide +kernel) F.cmpEntry_ne (PySem.W.check_slot F.cmpKind_ne F.cmpSplit_ne LI (F.cmpArgs_ne _ _) ?_))
    show wpAny (model P w) A.in1 (cRoomFor "comparison" [.ref x, .ref y] >>= _) _ _ _
    refine wpAny_bind (wpAny_cRoomFor un (wpAny_bind (PySem.W.ifBound_K X I eq fn (wpAny_mono h ?_ fun _ _ e => e))))
    rintro v s' ⟨b, rfl, q⟩
    exact wpAny_bind (wpAny_truthy_bool (wpAny_pure ⟨_, rfl, q⟩))
  have once : wpAny (model P w) A (tryCompare (.ref x) "__ne__" (.ref y)) (fun r s' => ∃ v, r = some v ∧ Q v s') E s := by
    unfold tryCompare
    simp only [callSpecialIfBound?, bindSpecialIfBound?]
    have ask : wpAny (model P w) A (call (.builtin "object.__ne__") ([.ref x] ++ [.ref y]) >>= fun v => pure (some v)) (fun r s' => ∃ b, r = some (.bool b) ∧ Q (.bool b) s') E s :=
      wpAny_bind (wpAny_mono body (fun v s' ⟨b, e, q⟩ => wpAny_pure ⟨b, by rw [e], e ▸ q⟩) fun _ _ e => e)
    refine wpAny_bind (wpAny_holding (wpAny_bind (wpAny_bind (wpAny_bind (LX.here (LN.here (wpAny_bind (wpAny_askSetting ?_))))))))
    split
    · exact wpAny_bind (LB.here (wpAny_pure (by exact wpAny_mono ask (fun r s' ⟨b, e, q⟩ => by subst e; exact wpAny_pure ⟨_, rfl, q⟩) fun _ _ e => e)))
    · exact wpAny_tryCatch (wpAny_bind (LB.here (wpAny_pure (by exact wpAny_mono ask (fun r s' ⟨b, e, q⟩ => by subst e; exact wpAny_pure ⟨_, rfl, q⟩) fun _ _ e => e))))
  unfold richCompare
  simp only [oneThing_ref]
  refine wpAny_holding (wpAny_bind (wpAny_cRoomFor (by omega) (wpAny_bind (LX.here (wpAny_bind (LY.here ?_))))))
  rw [show (Value.ref C != Value.ref C) = false by simp]
  refine wpAny_bind (wpAny_pure (wpAny_bind (wpAny_mono once ?_ fun _ _ e => e)))
  rintro _ s' ⟨v, rfl, q⟩
  exact wpAny_pure q
end
section
variable {X : Cx} {CX : CXT} {n : Nat} {C f : Addr} {fd : FuncData} {ps : List Str} {sp : Sp} {E : XK}
/-- the class's own ==, as it stands -/
structure EqOf (K : PySem.W.Frag) (C f : Addr) : Prop where
  eq : PySem.W.findIn K (.ref C) "__eq__" = some (some (.ref f))
  fn : PySem.W.isFn K (.ref f) = true
  ne : PySem.W.findIn K (.ref C) "__ne__" = some (some (.builtin "object.__ne__"))
  ob : PySem.W.mroIn K C (.type "object") = some true
/-- f(a, b) from inside of a built-in -/
theorem call_two {A : Around} {pins : List (Addr × Obj)} {s : Shared} {σ : L2.St} {H : Hp} {a b : Addr} {Q : VK} (F : FnOk X.prog X.w X.K X.mg X.base CX n f fd ps sp) (hb : Binds X.K fd ps []) (hx : Passes CX X E)
    (room : Room n A) (fr : A.frames = X.A.frames) (I : Inv X pins σ H s) (asks : sp [.ref a, .ref b] H Q E) :
    wpAny (model X.prog X.w) A (call (.ref f) [.ref a, .ref b]) (EP X pins σ Q) X.xe s := by
  have rel : Vals [V.ref a, V.ref b] [Value.ref a, Value.ref b] := .cons rfl (.cons rfl .nil)
  have bound : BindsTo s fd ⟨[.ref a, .ref b], []⟩ (ps.zip [.ref a, .ref b]) := by simpa using hb s [.ref a, .ref b] I.kIn (by simpa using F.len _ _ _ _ asks)
  have around : Env0 X.prog X.w X.K X.mg X.base A X.stack s H := { I.env0 with frames := fr.trans I.env0.frames }
  refine wpAny_call (codeAny_mono (F.run A X.stack s H ⟨[.ref a, .ref b], []⟩ [.ref a, .ref b] _ Q E room around bound rel asks) ?_)
  rintro (er | fl) s' out
  · exact hx pins σ H s er s' I out
  · cases fl with
    | ret u => exact I.after out
    | _ => exact out.elim
def rNeO (C : Addr) (sp : Sp) (E : XK) : R2 := fun x y H Q => ∃ a b dx dy fs gs, x = .ref a ∧ y = .ref b ∧ H a = some (.ins C dx fs) ∧ H b = some (.ins C dy gs) ∧
  sp [.ref a, .ref b] H (fun v H' => ∃ c, v = .bl c ∧ Q (.bl (!c)) H') E
theorem op_neO (F : FnOk X.prog X.w X.K X.mg X.base CX n f fd ps sp) (O : EqOf X.K C f) (hb : Binds X.K fd ps []) (hx : Passes CX X E) (hr : Room (n + 1) X.A) : OpR X (compareOp .NotEq) (rNeO C sp E) := by
  rintro pins s σ H _ _ v u Q I rx ry ⟨a, b, dx, dy, fs, gs, rfl, rfl, ha, hb', asks⟩
  cases rx
  cases ry
  obtain ⟨_, JA, _⟩ := ins_get I.hok ha
  obtain ⟨_, JB, _⟩ := ins_get I.hok hb'
  obtain ⟨_, JA, _⟩ := JA.look
  obtain ⟨_, JB, _⟩ := JB.look
  refine ne_asks_eq I.kIn JA JB (by have := hr.units; omega) O.ne O.ob O.eq O.fn (wpAny_mono (call_two F hb hx hr.in1 rfl I asks) ?_ fun _ _ e => e)
  rintro _ s' ⟨_, H', I', rz, c, rfl, q⟩
  cases rz
  exact ⟨c, rfl, .bl (!c), H', I', rfl, q⟩
def rEqO (C : Addr) (sp : Sp) (E : XK) : R2 := fun x y H Q => ∃ a b dx dy fs gs, x = .ref a ∧ y = .ref b ∧ H a = some (.ins C dx fs) ∧ H b = some (.ins C dy gs) ∧
  sp [.ref a, .ref b] H (fun v H' => ∃ c, v = .bl c ∧ Q (.bl c) H') E
theorem op_eqO (F : FnOk X.prog X.w X.K X.mg X.base CX n f fd ps sp) (O : EqOf X.K C f) (hb : Binds X.K fd ps []) (hx : Passes CX X E) (hr : Room n X.A) : OpR X (compareOp .Eq) (rEqO C sp E) := by
  rintro pins s σ H _ _ v u Q I rx ry ⟨a, b, dx, dy, fs, gs, rfl, rfl, ha, hb', asks⟩
  cases rx
  cases ry
  obtain ⟨_, JA, _⟩ := ins_get I.hok ha
  obtain ⟨_, JB, _⟩ := ins_get I.hok hb'
  obtain ⟨_, JA, _⟩ := JA.look
  obtain ⟨_, JB, _⟩ := JB.look
  obtain ⟨m, hF⟩ := I.fr
  refine PySem.W.cmp_K (op := .Eq) (tb := .ref C) (by have := hr.units; omega) hF I.ok.mod.kin JA JB.type (by simp [PySem.W.notFirst]) O.eq O.fn (wpAny_mono (call_two F hb hx hr rfl I asks) ?_ fun _ _ e => e)
  rintro _ s' ⟨_, H', I', rz, c, rfl, q⟩
  cases rz
  exact ⟨.bl c, H', I', rfl, q⟩
end
end Own

namespace Own
open PySem PySem.Spec PyProof.Rows L2 SX
/-! ### templates compared, mirrored; promises -/
theorem shp_tt {cs : List (List Nat)} (h : ∀ c ∈ cs, ∀ k ∈ c, k < 128) : SeqAt.shaped (.tuple (cs.map fun c => PyData.str (S c))) = true := by
  unfold SeqAt.shaped
  have e : (PyData.tuple (cs.map fun c => PyData.str (S c))).depth = 1 := by
    show PyData.depthAll (cs.map fun c => PyData.str (S c)) + 1 = 1
    rw [dep_tx]
  rw [e]
  show (PyData.canLayAll0 (cs.map fun c => PyData.str (S c)) && decide (1 ≤ 64)) = true
  rw [lay_tx cs h]
  rfl
def spMi (C : Addr) : Sp := fun vs H Q _ => ∃ (a : Addr) (gs : List Nat) (its : List (List Nat)), vs = [.ref a] ∧ Tm C H a gs its ∧ Good gs ∧ Row gs its ∧ its.length ≤ 160 ∧
  ∀ H' p, Same H H' → H p = none → Tm C H' p gs its.reverse → Q (.ref p) H'
/-- texts of plain signs -/
def Plain (its : List (List Nat)) : Prop := ∀ x ∈ its, ∀ k ∈ x, k < 128
def spTe (C : Addr) : Sp := fun vs H Q _ => ∃ (a b : Addr) (gs hs : List Nat) (its jts : List (List Nat)), vs = [.ref a, .ref b] ∧ Tm C H a gs its ∧ Tm C H b hs jts ∧ Plain its ∧ Plain jts ∧
  ∀ H', Same H H' → Q (.bl (decide (gs = hs) && decide (its = jts))) H'
theorem row_rev {gs : List Nat} {its : List (List Nat)} (h : Row gs its) : Row gs its.reverse := fun x hx => h x (List.mem_reverse.mp hx)
theorem row_plain {gs : List Nat} (hg : Good gs) {its : List (List Nat)} (h : Row gs its) : Plain its := fun x hx k hk => by
  have := hg.az k (row_mem h x hx k hk)
  omega
theorem dp_allT {K : PySem.W.Frag} {H : Hp} (its : List (List Nat)) : DpAll K H (its.map tx) (its.map fun c => PyData.str (S c)) := by
  have := dp_all (K := K) (H := H) its
  rw [List.map_map] at this
  exact this
/-- filled with the text read backwards, the items from the end: the filled text read backwards -/
theorem fill_rev {gs : List Nat} (hg : Good gs) {its : List (List Nat)} (h : Row gs its) (xs : List Nat) : fillL gs its.reverse xs.reverse = (fillL gs its xs).reverse := by
  rw [← lf_eq hg (row_rev h), ← lf_eq hg h, List.reverse_flatten, List.map_reverse, List.map_map]
  congr 2
  refine List.map_congr_left fun x hx => ?_
  show lf1 gs xs.reverse x = (lf1 gs xs x).reverse
  unfold lf1
  rcases h x hx with ⟨c, _, rfl⟩ | p
  · rw [if_pos (show [c].length = 1 from rfl), if_pos (show [c].length = 1 from rfl)]
    rfl
  · have := p.length_eq
    have := hg.lo
    rw [if_neg (by omega), if_neg (by omega), List.map_reverse]
/-- the items turned give the turned text -/
theorem fill_tau {gs t : List Nat} (hg : Good gs) (ht : t.Perm gs) {its : List (List Nat)} (h : Row gs its) {xs : List Nat} (hx : ∀ c ∈ xs, c ∈ gs) :
    fillL gs (its.map fun x => x.map (tau gs t)) xs = (fillL gs its xs).map (tau gs t) := by
  rw [← lf_eq hg (row_tau hg ht h), ← lf_eq hg h, List.map_flatten, List.map_map, List.map_map]
  congr 1
  refine List.map_congr_left fun x hi => ?_
  show lf1 gs xs (x.map (tau gs t)) = (lf1 gs xs x).map (tau gs t)
  unfold lf1
  rw [List.length_map]
  by_cases h1 : x.length = 1
  · rw [if_pos h1, if_pos h1]
  · rw [if_neg h1, if_neg h1, List.map_map]
    refine List.map_congr_left fun c hc => ?_
    have hl : x.length = gs.length := by
      rcases h x hi with ⟨c, _, rfl⟩ | p
      · exact absurd rfl h1
      · exact p.length_eq
    show tau gs (x.map (tau gs t)) c = tau gs t (tau gs x c)
    exact tau_map _ (hx c hc) hl
theorem fill_mem {gs : List Nat} (hg : Good gs) {its : List (List Nat)} (h : Row gs its) {xs : List Nat} (hx : ∀ c ∈ xs, c ∈ gs) : ∀ c ∈ fillL gs its xs, c ∈ gs := by
  rw [← lf_eq hg h]
  intro c hc
  obtain ⟨l, hl, hcl⟩ := List.mem_flatten.mp hc
  obtain ⟨x, hxi, rfl⟩ := List.mem_map.mp hl
  unfold lf1 at hcl
  split at hcl
  · exact row_mem h x hxi c hcl
  · rename_i h1
    obtain ⟨d, hd, rfl⟩ := List.mem_map.mp hcl
    have hl : x.length = gs.length := by
      rcases h x hxi with ⟨c, _, rfl⟩ | p
      · exact absurd rfl h1
      · exact p.length_eq
    exact row_mem h x hxi _ (tau_mem (hx d hd) hl)
theorem flat_tx (its : List (List Nat)) : ∀ x ∈ its.map tx, Flat x := by
  intro x hx
  obtain ⟨c, _, rfl⟩ := List.mem_map.mp hx
  trivial
theorem rev_S (xs : List Nat) : (⟨(S xs).cps.reverse⟩ : Str) = S xs.reverse := by
  show (⟨xs.toArray.reverse⟩ : Str) = ⟨xs.reverse.toArray⟩
  rw [List.reverse_toArray]
/-- two lists of two -/
theorem eqd_two {K : PySem.W.Frag} {H : Hp} {n : Nat} {a b : Addr} {x1 x2 y1 y2 : V} (h1 : H a = some (.lst [x1, x2])) (h2 : H b = some (.lst [y1, y2])) (e1 : Eqd K H (n + 1) x1 y1) (e2 : Eqd K H (n + 1) x2 y2) : Eqd K H (n + 2) (.ref a) (.ref b) := by
  refine Or.inr ⟨a, b, _, _, rfl, rfl, .inl ⟨.inl (.inl h1), .inl (.inl h2)⟩, (by show 2 ≤ 1000; decide), rfl, fun i u v hu hv => ?_⟩
  match i with
  | 0 =>
    cases hu
    cases hv
    exact e1
  | 1 =>
    cases hu
    cases hv
    exact e2
  | i + 2 => simp at hu
theorem und_perm {gs t : List Nat} (hg : Good gs) (ht : t.Perm gs) : (und gs t).Perm gs := by
  have nd : t.Nodup := ht.nodup_iff.mpr hg.nd
  have inj : ∀ c ∈ gs, tau gs t (tau t gs c) = c := fun c hc => tau_back hg.nd ht.length_eq.symm (ht.mem_iff.mpr hc)
  have und_nd : (und gs t).Nodup := by
    unfold und
    refine List.pairwise_map.mpr (List.Pairwise.imp_of_mem (fun {a b} ha hb hab e => hab ?_) hg.nd)
    rw [← inj a ha, ← inj b hb, e]
  refine perm_of_counts gs _ hg.nd (by unfold und; rw [List.length_map]) fun c hc => ?_
  have mem : c ∈ und gs t := List.mem_map.mpr ⟨tau gs t c, ht.mem_iff.mp (tau_mem hc ht.length_eq), tau_back nd ht.length_eq hc⟩
  rw [und_nd.count, if_pos mem]
theorem turned_back {gs t : List Nat} (hg : Good gs) (ht : t.Perm gs) {its : List (List Nat)} (h : Row gs its) :
    ((its.map fun x => x.map (tau gs t)).map fun x => x.map (tau gs (und gs t))) = its := by
  rw [List.map_map]
  refine (List.map_congr_left fun x hx => ?_).trans (List.map_id its)
  show (x.map (tau gs t)).map (tau gs (und gs t)) = x
  rw [List.map_map]
  refine (List.map_congr_left fun c hc => ?_).trans (List.map_id x)
  exact und_back (ht.nodup_iff.mpr hg.nd) ht.length_eq (fun c hc => ht.mem_iff.mp hc) (row_mem h x hx c hc)
/-- isinstance facts of the class -/
structure InsC (K : PySem.W.Frag) (C : Addr) : Prop where
  cls : Cls K C
  ha : PySem.W.findIn K (.ref C) "__class__" = some (some (.builtin "object.__class__"))
  hn : PySem.W.specialIn K (.builtin "object.__class__") "__get__" = some (some (.builtin "getset_descriptor.__get__"))
  tk : PySem.W.takesIn K (.builtin "object.__class__") = some true
  ob : PySem.W.mroIn K C (.type "object") = some true
  kit : PySem.W.kitOne K (.ref C) (.ref C) = some true
theorem InsC.ty {K : PySem.W.Frag} {C a dx : Addr} {H : Hp} {fs : List (Str × V)} (i : InsC K C) (e : H a = some (.ins C dx fs)) : TyX K H (.ref a) (.ref C) := .base (.ins e i.cls i.ha i.hn i.tk i.ob)
def spItT (K : PySem.W.Frag) : Sp := fun vs H Q _ => ∃ (gs t : List Nat) (a : Addr) (its : List (List Nat)), vs = [tx gs, tx t, .ref a] ∧ Good gs ∧ t.Perm gs ∧ Row gs its ∧ its.length ≤ 100 ∧ SqL K H a (its.map tx) ∧
  ∀ H' p, Same H H' → H p = none → H' p = some (.lst ((its.map fun x => x.map (tau gs t)).map tx)) → Q (.ref p) H'
end Own

namespace Own
open PySem PySem.Spec PyProof.Rows L2 SX
/-! ### templates put into one another -/
theorem none_of {H H' : Hp} (s : Same H H') {p : Addr} (h : H' p = none) : H p = none := by
  cases e : H p with
  | none => rfl
  | some o => rw [s _ _ e] at h; cases h
/-- what becomes of one item -/
def put1 (gs : List Nat) (inn : List (List Nat)) (x : List Nat) : List (List Nat) := if 1 < x.length then inn.map fun y => y.map (tau gs x) else [x]
theorem putL_eq (gs : List Nat) (its inn : List (List Nat)) : putL gs its inn = (its.map (put1 gs inn)).flatten := rfl
theorem putL_snoc {gs : List Nat} {its inn : List (List Nat)} {i : Nat} {x : List Nat} (h : its[i]? = some x) : putL gs (its.take (i + 1)) inn = putL gs (its.take i) inn ++ put1 gs inn x := by
  rw [putL_eq, putL_eq, List.take_add_one, h]
  simp
theorem row_put {gs : List Nat} (hg : Good gs) {its inn : List (List Nat)} (h : Row gs its) (hi : Row gs inn) : Row gs (putL gs its inn) := by
  intro y hy
  rw [putL_eq] at hy
  obtain ⟨l, hl, hyl⟩ := List.mem_flatten.mp hy
  obtain ⟨x, hx, rfl⟩ := List.mem_map.mp hl
  unfold put1 at hyl
  rcases h x hx with ⟨c, hc, rfl⟩ | p
  · rw [if_neg (by show ¬ 1 < 1; omega)] at hyl
    rw [List.mem_singleton.mp hyl]
    exact .inl ⟨c, hc, rfl⟩
  · have := hg.lo
    have := p.length_eq
    rw [if_pos (by omega)] at hyl
    exact row_tau hg p hi y hyl
theorem putL_len {gs : List Nat} {its inn : List (List Nat)} {n m : Nat} (h : its.length ≤ n) (h' : inn.length ≤ m) (hm : 1 ≤ m) : (putL gs its inn).length ≤ n * m :=
  Nat.le_trans (put_len hm h') (Nat.mul_le_mul_right _ h)
/-- filled after put: put in one after the other -/
theorem fill_put {gs : List Nat} (hg : Good gs) {its inn : List (List Nat)} (h : Row gs its) (hi : Row gs inn) {xs : List Nat} (hx : ∀ c ∈ xs, c ∈ gs) :
    fillL gs (putL gs its inn) xs = fillL gs its (fillL gs inn xs) := by
  rw [← lf_eq hg h, ← lf_eq hg (row_put hg h hi), putL_eq, List.map_flatten, List.flatten_flatten, List.map_map, List.map_map]
  congr 1
  refine List.map_congr_left fun x hxi => ?_
  show ((put1 gs inn x).map (lf1 gs xs)).flatten = lf1 gs (fillL gs inn xs) x
  rcases h x hxi with ⟨c, hc, rfl⟩ | p
  · unfold put1 lf1
    rw [if_neg (by show ¬ 1 < 1; omega), if_pos (show [c].length = 1 from rfl)]
    show ([(if [c].length = 1 then [c] else xs.map (tau gs [c]))] : List (List Nat)).flatten = [c]
    rw [if_pos (show [c].length = 1 from rfl)]
    rfl
  · have hlo := hg.lo
    have hpl := p.length_eq
    have e : lf1 gs (fillL gs inn xs) x = (fillL gs inn xs).map (tau gs x) := by unfold lf1; rw [if_neg (by omega)]
    rw [e, ← fill_tau hg p hi hx]
    unfold put1
    rw [if_pos (by omega), ← lf_eq hg (row_tau hg p hi)]
/-- one letter's way through two turns -/
theorem tau_tau {gs x y : List Nat} {c : Nat} (hy : y.length = gs.length) (hc : c ∈ gs) : tau gs (y.map (tau gs x)) c = tau gs x (tau gs y c) := tau_map _ hc hy
theorem put_put {gs : List Nat} (hg : Good gs) {its inn jts : List (List Nat)} (h : Row gs its) (hi : Row gs inn) (hj : Row gs jts) :
    putL gs (putL gs its inn) jts = putL gs its (putL gs inn jts) := by
  rw [putL_eq gs (putL gs its inn), putL_eq gs its inn, putL_eq gs its (putL gs inn jts), List.map_flatten, List.flatten_flatten, List.map_map, List.map_map]
  congr 1
  refine List.map_congr_left fun x hx => ?_
  show ((put1 gs inn x).map (put1 gs jts)).flatten = put1 gs (putL gs inn jts) x
  have hlo := hg.lo
  rcases h x hx with ⟨c, hc, rfl⟩ | p
  · have e : ∀ l, put1 gs l [c] = [[c]] := fun l => by unfold put1; rw [if_neg (by show ¬ 1 < 1; omega)]
    rw [e, e, List.map_singleton, e]
    rfl
  · have hpl := p.length_eq
    have e : ∀ l : List (List Nat), put1 gs l x = l.map fun y => y.map (tau gs x) := fun l => by unfold put1; rw [if_pos (by omega)]
    rw [e, e, putL_eq, List.map_flatten, List.map_map, List.map_map]
    congr 1
    refine List.map_congr_left fun y hy => ?_
    show put1 gs jts (y.map (tau gs x)) = (put1 gs jts y).map fun z => z.map (tau gs x)
    rcases hi y hy with ⟨d, hd, rfl⟩ | py
    · unfold put1
      rw [if_neg (by show ¬ 1 < 1; omega), if_neg (by show ¬ 1 < 1; omega)]
      rfl
    · have hyl := py.length_eq
      unfold put1
      rw [List.length_map, if_pos (by omega), if_pos (by omega), List.map_map]
      refine List.map_congr_left fun z hz => ?_
      show z.map (tau gs (y.map (tau gs x))) = (z.map (tau gs y)).map (tau gs x)
      rw [List.map_map]
      exact List.map_congr_left fun c hc => tau_tau hyl (row_mem hj z hz c hc)
/-- a template stays where a list is written -/
theorem Tm.put {C : Addr} {H : Hp} {a D : Addr} {gs : List Nat} {its : List (List Nat)} {xs ys : List V} (t : Tm C H a gs its) (hD : H D = some (.lst xs)) : Tm C (upd H D (.lst ys)) a gs its := by
  obtain ⟨dx, p, h1, h4⟩ := t
  exact ⟨dx, p, by rw [upd_ne (ne_of h1 hD fun e => by cases e)]; exact h1, by rw [upd_ne (ne_of h4 hD fun e => by cases e)]; exact h4⟩
/-! ### promises -/
def spCS : Sp := fun vs H Q _ => ∃ gs : List Nat, vs = [tx gs, tx gs] ∧ Q .non H
def spCSX (C : Addr) : Sp := fun vs H _ E => ∃ gs hs : List Nat, vs = [tx gs, tx hs] ∧ gs ≠ hs ∧ ∀ H' d, Same H H' → H' d = some (.xd [("code", .str "LettersDiffer")]) → E (.ref C) (some d) H'
def spPt (C : Addr) : Sp := fun vs H Q _ => ∃ (a b : Addr) (gs : List Nat) (its inn : List (List Nat)), vs = [.ref a, .ref b] ∧ Tm C H a gs its ∧ Tm C H b gs inn ∧ Good gs ∧ Row gs its ∧ Row gs inn ∧ its.length ≤ 160 ∧ inn.length ≤ 160 ∧
  (putL gs its inn).length ≤ 160 ∧ ∀ H' p, Same H H' → H p = none → Tm C H' p gs (putL gs its inn) → Q (.ref p) H'
def spPX (C CD : Addr) : Sp := fun vs H _ E => ∃ (a b : Addr) (gs hs : List Nat) (its inn : List (List Nat)), vs = [.ref a, .ref b] ∧ Tm C H a gs its ∧ Tm C H b hs inn ∧ gs ≠ hs ∧ ∀ H' d, Same H H' →
  H' d = some (.xd [("code", .str "LettersDiffer")]) → E (.ref CD) (some d) H'
def spLp (K : PySem.W.Frag) : Sp := fun vs H Q _ => ∃ (gs : List Nat) (a b : Addr) (its inn : List (List Nat)), vs = [tx gs, .ref a, .ref b] ∧ Good gs ∧ Row gs its ∧ Row gs inn ∧ its.length ≤ 20 ∧ inn.length ≤ 20 ∧ SqL K H a (its.map tx) ∧ SqL K H b (inn.map tx) ∧
  ∀ H' p, Same H H' → H p = none → H' p = some (.lst ((putL gs its inn).map tx)) → Q (.ref p) H'
def spLo : Sp := fun vs H Q _ => ∃ gs : List Nat, vs = [tx gs] ∧ ((gs ≠ [120, 121] → Q (tx [120, 121]) H) ∧ (gs = [120, 121] → Q (tx [121, 120]) H))
theorem err_ld {K : PySem.W.Frag} {mg : Str → Option Value} {x : Str} {C d : Addr} {H : Hp} (T : ErrC K mg x C) (h : H d = some (.xd [("code", .str "LettersDiffer")])) :
    ErrAt K (.ref C) (some d) H "LettersDiffer" .non := ⟨C, d, _, rfl, rfl, h, T.xf, T.nc, rfl, .inr ⟨.inr rfl, rfl⟩⟩
theorem sh_ld : SeqAt.shaped (.tuple [.str (Str.ofString "LettersDiffer"), .none]) = true := by decide +kernel
end Own

namespace Own
open PySem PySem.Spec PyProof.Rows L2 SX
/-! ### a == v, a + b by an own class -/
section
variable {X : Cx} {CX : CXT} {n : Nat} {C f : Addr} {fd : FuncData} {ps : List Str} {sp : Sp} {E : XK}
/-- f(a, y) from inside of an operation -/
theorem call_with {A : Around} {pins : List (Addr × Obj)} {s : Shared} {σ : L2.St} {H : Hp} {a : Addr} {y : V} {u : Value} {Q : VK} (F : FnOk X.prog X.w X.K X.mg X.base CX n f fd ps sp) (hb : Binds X.K fd ps []) (hx : Passes CX X E)
    (room : Room n A) (fr : A.frames = X.A.frames) (I : Inv X pins σ H s) (ry : RelV y u) (asks : sp [.ref a, y] H Q E) :
    wpAny (model X.prog X.w) A (call (.ref f) [.ref a, u]) (EP X pins σ Q) X.xe s := by
  have rel : Vals [V.ref a, y] [Value.ref a, u] := .cons rfl (.cons ry .nil)
  have bound : BindsTo s fd ⟨[.ref a, u], []⟩ (ps.zip [.ref a, u]) := by simpa using hb s [.ref a, u] I.kIn (by simpa using F.len _ _ _ _ asks)
  have around : Env0 X.prog X.w X.K X.mg X.base A X.stack s H := { I.env0 with frames := fr.trans I.env0.frames }
  refine wpAny_call (codeAny_mono (F.run A X.stack s H ⟨[.ref a, u], []⟩ [.ref a, u] _ Q E room around bound rel asks) ?_)
  rintro (er | fl) s' out
  · exact hx pins σ H s er s' I out
  · cases fl with
    | ret u => exact I.after out
    | _ => exact out.elim
def rEqX (K : PySem.W.Frag) (C : Addr) (sp : Sp) (E : XK) : R2 := fun x y H Q => ∃ a dx fs t, x = .ref a ∧ H a = some (.ins C dx fs) ∧ TyX K H y t ∧ PySem.W.notFirst K C t = true ∧
  sp [.ref a, y] H (fun v H' => ∃ c, v = .bl c ∧ Q (.bl c) H') E
theorem op_eqX (F : FnOk X.prog X.w X.K X.mg X.base CX n f fd ps sp) (O : EqOf X.K C f) (hb : Binds X.K fd ps []) (hx : Passes CX X E) (hr : Room n X.A) : OpR X (compareOp .Eq) (rEqX X.K C sp E) := by
  rintro pins s σ H _ y v u Q I rx ry ⟨a, dx, fs, t, rfl, ha, ty, nf, asks⟩
  cases rx
  obtain ⟨_, JA, _⟩ := ins_get I.hok ha
  obtain ⟨_, JA, _⟩ := JA.look
  obtain ⟨m, hF⟩ := I.fr
  obtain ⟨Z, kit, holds, _⟩ := kit_of I ry ty
  refine PySem.W.cmp_K (op := .Eq) (tb := t) (by have := hr.units; omega) hF I.ok.mod.kin JA (kit.ty _ _ I.kIn holds) nf O.eq O.fn (wpAny_mono (call_with F hb hx hr rfl I ry asks) ?_ fun _ _ e => e)
  rintro _ s' ⟨_, H', I', rz, c, rfl, q⟩
  cases rz
  exact ⟨.bl c, H', I', rfl, q⟩
/-- a + b of two instances of one class, by its own __add__, which hands back an object -/
structure AddOf (K : PySem.W.Frag) (C f : Addr) : Prop where
  add : PySem.W.findIn K (.ref C) "__add__" = some (some (.ref f))
  fn : PySem.W.isFn K (.ref f) = true
  first : PySem.W.selfFirst K C = true
def rAddO (C : Addr) (sp : Sp) (E : XK) : R2 := fun x y H Q => ∃ a b dx dy fs gs, x = .ref a ∧ y = .ref b ∧ H a = some (.ins C dx fs) ∧ H b = some (.ins C dy gs) ∧
  sp [.ref a, .ref b] H (fun v H' => ∃ p, v = .ref p ∧ Q (.ref p) H') E
theorem op_addO (F : FnOk X.prog X.w X.K X.mg X.base CX n f fd ps sp) (O : AddOf X.K C f) (hb : Binds X.K fd ps []) (hx : Passes CX X E) (hr : Room n X.A) : OpR X (binaryOp .Add) (rAddO C sp E) := by
  rintro pins s σ H _ _ v u Q I rx ry ⟨a, b, dx, dy, fs, gs, rfl, rfl, ha, hb', asks⟩
  cases rx
  cases ry
  obtain ⟨_, JA, _⟩ := ins_get I.hok ha
  obtain ⟨_, JB, _⟩ := ins_get I.hok hb'
  obtain ⟨_, JA, _⟩ := JA.look
  obtain ⟨_, JB, _⟩ := JB.look
  obtain ⟨m, hF⟩ := I.fr
  refine PySem.W.binop_K (op := .Add) hF I.ok.mod.kin JA JB.type O.first O.add O.fn (wpAny_mono (call_with F hb hx hr rfl I (show RelV (V.ref b) (Value.ref b) from rfl) asks) ?_ fun _ _ e => e)
  rintro _ s' ⟨_, H', I', rz, p, rfl, q⟩
  cases rz
  exact ⟨.ref p, H', I', rfl, q⟩
end
/-! ### lists cut -/
theorem cut_all (xs : List V) : cutV xs none none = xs := by
  unfold cutV
  rw [HT.sIx_none, HT.sIx_none, List.drop_zero, Nat.sub_zero, List.take_length]
theorem cut_to {xs : List V} {k : Nat} (h : k ≤ xs.length) : cutV xs none (some (k : Int)) = xs.take k := by
  unfold cutV
  rw [HT.sIx_none, HT.sIx_nat, List.drop_zero, Nat.sub_zero, Nat.min_eq_left h]
theorem cut_from {xs : List V} {k : Nat} (h : k ≤ xs.length) : cutV xs (some (k : Int)) none = xs.drop k := by
  unfold cutV
  rw [HT.sIx_none, HT.sIx_nat, Nat.min_eq_left h, List.take_of_length_le (by rw [List.length_drop]; exact Nat.le_refl _)]
theorem row_app {gs : List Nat} {a b : List (List Nat)} (h : Row gs a) (h' : Row gs b) : Row gs (a ++ b) := fun x hx => (List.mem_append.mp hx).elim (h x) (h' x)
theorem row_take {gs : List Nat} {a : List (List Nat)} (h : Row gs a) (k : Nat) : Row gs (a.take k) := fun x hx => h x (List.mem_of_mem_take hx)
theorem row_drop {gs : List Nat} {a : List (List Nat)} (h : Row gs a) (k : Nat) : Row gs (a.drop k) := fun x hx => h x (List.mem_of_mem_drop hx)
theorem good_rev {gs : List Nat} (h : Good gs) : Good gs.reverse := ⟨by rw [List.length_reverse]; exact h.lo, by rw [List.length_reverse]; exact h.hi, (List.reverse_perm gs).nodup_iff.mpr h.nd, fun c hc => h.az c (List.mem_reverse.mp hc)⟩
theorem rev_ne {gs : List Nat} (h : Good gs) : gs.reverse ≠ gs := by
  intro e
  have lo := h.lo
  have hi := h.hi
  have nd := h.nd
  match gs, lo, hi, nd, e with
  | [a, b], _, _, nd, e => simp at e nd; exact nd e.1.symm
  | [a, b, c], _, _, nd, e => simp at e nd; exact nd.1.2 e.1.symm
  | [a, b, c, d], _, _, nd, e => simp at e nd; exact nd.1.2.2 e.1.symm
/-! ### promises -/
/-- == with something that is no template -/
def spTeN (K : PySem.W.Frag) (C : Addr) : Sp := fun vs H Q _ => ∃ (a : Addr) (y : V) (t : Value), vs = [.ref a, y] ∧ TyX K H y t ∧ PySem.W.kitOne K t (.ref C) = some false ∧ Q (.bl false) H
def spAd (C : Addr) : Sp := fun vs H Q _ => ∃ (a b : Addr) (gs : List Nat) (its jts : List (List Nat)), vs = [.ref a, .ref b] ∧ Tm C H a gs its ∧ Tm C H b gs jts ∧ Good gs ∧ Row gs its ∧ Row gs jts ∧ (its ++ jts).length ≤ 160 ∧
  ∀ H' p, Same H H' → H p = none → Tm C H' p gs (its ++ jts) → Q (.ref p) H'
def spAX (C CD : Addr) : Sp := fun vs H _ E => ∃ (a b : Addr) (gs hs : List Nat) (its jts : List (List Nat)), vs = [.ref a, .ref b] ∧ Tm C H a gs its ∧ Tm C H b hs jts ∧ gs ≠ hs ∧ ∀ H' d, Same H H' →
  H' d = some (.xd [("code", .str "LettersDiffer")]) → E (.ref CD) (some d) H'
theorem eqd_three {K : PySem.W.Frag} {H : Hp} {n : Nat} {a b : Addr} {x1 x2 x3 y1 y2 y3 : V} (h1 : H a = some (.lst [x1, x2, x3])) (h2 : H b = some (.lst [y1, y2, y3])) (e1 : Eqd K H (n + 1) x1 y1) (e2 : Eqd K H (n + 1) x2 y2) (e3 : Eqd K H (n + 1) x3 y3) :
    Eqd K H (n + 2) (.ref a) (.ref b) := by
  refine Or.inr ⟨a, b, _, _, rfl, rfl, .inl ⟨.inl (.inl h1), .inl (.inl h2)⟩, (by show 3 ≤ 1000; decide), rfl, fun i u v hu hv => ?_⟩
  match i with
  | 0 => cases hu; cases hv; exact e1
  | 1 => cases hu; cases hv; exact e2
  | 2 => cases hu; cases hv; exact e3
  | i + 3 => simp at hu
end Own

namespace Own
open PySem PySem.Spec PyProof.Rows L2 SX
/-! ### len(o), str(o), repr(o) by an own class -/
section
variable {X : Cx} {CX : CXT} {n : Nat} {C f : Addr} {fd : FuncData} {ps : List Str} {sp : Sp} {E : XK}
/-- f(a) from inside of a built-in -/
theorem call_alone {A : Around} {pins : List (Addr × Obj)} {s : Shared} {σ : L2.St} {H : Hp} {a : Addr} {Q : VK} (F : FnOk X.prog X.w X.K X.mg X.base CX n f fd ps sp) (hb : Binds X.K fd ps []) (hx : Passes CX X E)
    (room : Room n A) (fr : A.frames = X.A.frames) (I : Inv X pins σ H s) (asks : sp [.ref a] H Q E) :
    wpAny (model X.prog X.w) A (call (.ref f) [.ref a]) (EP X pins σ Q) X.xe s := by
  have rel : Vals [V.ref a] [Value.ref a] := .cons rfl .nil
  have bound : BindsTo s fd ⟨[.ref a], []⟩ (ps.zip [.ref a]) := by simpa using hb s [.ref a] I.kIn (by simpa using F.len _ _ _ _ asks)
  have around : Env0 X.prog X.w X.K X.mg X.base A X.stack s H := { I.env0 with frames := fr.trans I.env0.frames }
  refine wpAny_call (codeAny_mono (F.run A X.stack s H ⟨[.ref a], []⟩ [.ref a] _ Q E room around bound rel asks) ?_)
  rintro (er | fl) s' out
  · exact hx pins σ H s er s' I out
  · cases fl with
    | ret u => exact I.after out
    | _ => exact out.elim
/-- a method of the class that a built-in asks for -/
structure DunOf (K : PySem.W.Frag) (C : Addr) (m : Str) (f : Addr) : Prop where
  at_ : PySem.W.findIn K (.ref C) m = some (some (.ref f))
  fn : PySem.W.isFn K (.ref f) = true
theorem call_lenO (F : FnOk X.prog X.w X.K X.mg X.base CX n f fd ps sp) (O : DunOf X.K C "__len__" f) (hb : Binds X.K fd ps []) (hx : Passes CX X E) (hr : Room (n + 1) X.A) :
    CallR X (.builtin "len") (fun xs H Q => ∃ a dx fs, xs = [.ref a] ∧ H a = some (.ins C dx fs) ∧ sp [.ref a] H (fun v H' => ∃ k : Nat, v = .int (k : Int) ∧ k < 1000000 ∧ Q (.int (k : Int)) H') E) := by
  rintro pins s σ H _ us Q I r ⟨a, dx, fs, rfl, ha, asks⟩
  obtain ⟨_, rfl, e⟩ := vals1 r
  cases (show _ = Value.ref a from e)
  obtain ⟨_, JA, _⟩ := ins_get I.hok ha
  obtain ⟨_, JA, _⟩ := JA.look
  obtain ⟨m, hF⟩ := I.fr
  refine PySem.W.len_K hF I.ok.mod.kin JA O.at_ O.fn (wpAny_mono (call_alone F hb hx hr.in1 rfl I asks) ?_ fun _ _ e => e)
  rintro _ s' ⟨_, H', I', rz, k, rfl, lt, q⟩
  obtain ⟨t, rfl⟩ := rz
  exact ⟨⟨by omega, by omega⟩, .int (k : Int), H', I'.tok _, ⟨_, rfl⟩, q⟩
theorem call_reprO (F : FnOk X.prog X.w X.K X.mg X.base CX n f fd ps sp) (O : DunOf X.K C "__repr__" f) (hb : Binds X.K fd ps []) (hx : Passes CX X E) (hr : Room (n + 1) X.A) :
    CallR X (.builtin "repr") (fun xs H Q => ∃ a dx fs, xs = [.ref a] ∧ H a = some (.ins C dx fs) ∧ sp [.ref a] H (fun v H' => ∃ z : Str, v = .str z ∧ Q (.str z) H') E) := by
  rintro pins s σ H _ us Q I r ⟨a, dx, fs, rfl, ha, asks⟩
  obtain ⟨_, rfl, e⟩ := vals1 r
  cases (show _ = Value.ref a from e)
  obtain ⟨_, JA, _⟩ := ins_get I.hok ha
  obtain ⟨_, JA, _⟩ := JA.look
  obtain ⟨m, hF⟩ := I.fr
  refine PySem.W.repr_K (by have := hr.un; show _ + 1 < _; omega) hF I.ok.mod.kin JA O.at_ O.fn (wpAny_mono (call_alone F hb hx hr.in1 rfl I asks) ?_ fun _ _ e => e)
  rintro _ s' ⟨_, H', I', rz, z, rfl, q⟩
  obtain ⟨t, rfl⟩ := rz
  exact ⟨.str z, H', I', ⟨_, rfl⟩, q⟩
theorem call_strO (F : FnOk X.prog X.w X.K X.mg X.base CX n f fd ps sp) (O : DunOf X.K C "__str__" f) (hb : Binds X.K fd ps []) (hx : Passes CX X E) (hr : Room (n + 2) X.A) :
    CallR X (.type "str") (fun xs H Q => ∃ a dx fs, xs = [.ref a] ∧ H a = some (.ins C dx fs) ∧ sp [.ref a] H (fun v H' => ∃ z : Str, v = .str z ∧ Q (.str z) H') E) := by
  rintro pins s σ H _ us Q I r ⟨a, dx, fs, rfl, ha, asks⟩
  obtain ⟨_, rfl, e⟩ := vals1 r
  cases (show _ = Value.ref a from e)
  obtain ⟨_, JA, _⟩ := ins_get I.hok ha
  obtain ⟨_, JA, _⟩ := JA.look
  refine PySem.W.kso_call (by have := hr.un; show _ + 1 + 1 < _; omega) I.kIn JA O.at_ O.fn (wpAny_mono (call_alone F hb hx hr.in1.in1 rfl I asks) ?_ fun _ _ e => e)
  rintro _ s' ⟨_, H', I', rz, z, rfl, q⟩
  obtain ⟨t, rfl⟩ := rz
  exact ⟨.str z, H', I', ⟨_, rfl⟩, q⟩
end
/-! ### for i, x in enumerate(t), t a tuple -/
set_option maxHeartbeats 1000000 in
theorem enum_makes {v : Value} {o : Obj} {G : Heap → Prop} (B : Begins v o G) : Meets (Builtin.«enumerate.__new__» ⟨[.type "enumerate", v], []⟩) (fun _ R s => G s.heap ∧
    R (.ok (.ret (.ref (s.heap.push o).objs.size))) { s with heap := (s.heap.push o).push { cls := .type "enumerate", data := .fields #[.none, .bool false, .ref s.heap.objs.size, rawInt 0, .none, .none] } }) := by
  refine .of_wp ?_
  rintro prog w A R ⟨hp, g, d, tk, os⟩ ⟨h1, h⟩
  have sub := sub_enumerate
  have start : ∀ {A' : Around} {E : Value → Shared → Prop} {Q : Value → Shared → Prop}, Q (.ref hp.objs.size) ⟨hp.push o, g, d, tk, os⟩ → wpAny (model prog w) A' (pyIter v) Q E ⟨hp, g, d, tk, os⟩ :=
    fun q => B.iter prog w _ _ _ _ h1 q
  wp_walk using start
  refine wpAny_stack_any fun st => wpAny_pure ?_
  split
  all_goals try (rename_i c _ _ _ _ _; cases (c == Value.type "enumerate"))
  all_goals (wp_walk using start; exact ⟨_, rfl, h⟩)
def ItET (K : PySem.W.Frag) (a : Addr) (xs : List V) : It :=
  ⟨fun i H => SqT K H a xs ∧ i < xs.length,
   fun i H v H' => ∃ T x, v = .ref T ∧ H T = none ∧ xs[i]? = some x ∧ H' = upd H T (.tup [.int (i : Nat), x]),
   fun i H => SqT K H a xs ∧ i = xs.length⟩
theorem turnET {P : Program} {w : World} {K : PySem.W.Frag} {elts : List Expr} {kk : Nat} {tpos : Pos} {xs : List V} (a e it : Addr) (ne : e ≠ it) :
    Turn P w K (.Tuple elts kk tpos) (ItET K a xs) [e, it] e (fun i h => (∃ old, IsEnum h e it (0 + (i : Int)) old) ∧ h.IsTupleIter it a i) := by
  have apart : ∀ {h : Heap} {i : Nat} {its : Array Value}, h.IsTupleIter it a i → h.IsTuple a its → a ≠ it := by
    rintro h i its ⟨o, e1, c1, _⟩ ⟨o', e2, c2, _⟩ rfl
    rw [e1] at e2
    cases e2
    rw [c1] at c2
    injection c2 with c2
    exact absurd c2 (by decide)
  refine ⟨List.mem_cons_self, ?_, ?_, ?_, ?_, ?_⟩
  · rintro i h ⟨⟨old, he⟩, ⟨o, ho, _, hd⟩⟩
    simp only [List.forall_mem_cons]
    exact ⟨⟨_, he, fun v => nofun⟩, ⟨o, ho, fun v q => by rw [hd] at q; cases q⟩, fun _ q => nomatch q⟩
  · rintro i h h' ⟨⟨old, he⟩, ⟨o, ho, r⟩⟩ k
    exact ⟨⟨old, k e (by simp) _ he⟩, ⟨o, k it (by simp) _ ho, r⟩⟩
  · rintro X rfl rfl rfl calm i pins s σ H E I0 off ⟨⟨old, he⟩, hit⟩ ⟨hx, hlt⟩
    obtain ⟨its, rel, tup, line⟩ := I0.tuple hx
    have na := apart hit tup
    have nea : e ≠ a := by
      rintro rfl
      obtain ⟨o', e2, c2, _⟩ := tup
      rw [he] at e2
      cases e2
      injection c2 with c2
      exact absurd c2 (by decide)
    have G := GoesN.enumFrom (elts := elts) (x1 := kk) (pos := tpos) 0 (Draws.tuple (prog := X.prog) (w := X.w) (A := X.A.in1) (I0.ok.hd calm) it a na its.toArray) e ne (by simp [ne, nea]) (by simp)
    have lt : i < its.toArray.size := by
      rw [List.size_toArray, ← rel.length]
      exact hlt
    refine G.goes i s (fun u s2 => ∃ x H', Inv X pins σ H' s2 ∧ RelV x u ∧ (ItET X.K a xs).yld i H x H' ∧ ((∃ old, IsEnum s2.heap e it (0 + ((i + 1 : Nat) : Int)) old) ∧ s2.heap.IsTupleIter it a (i + 1)) ∧ ∀ b ∈ [e, it], H' b = none) E lt ⟨⟨old, he⟩, hit, tup⟩ fun u h tk y st' rest _ => ?_
    obtain ⟨T, t, z, rfl, young, hz, tT⟩ := y
    have hz' : its[i]? = some z := by rw [← List.getElem?_toArray]; exact hz
    obtain ⟨x, hxi, rx⟩ : ∃ x, xs[i]? = some x ∧ RelV x z := by
      have hxi := List.getElem?_eq_getElem hlt
      obtain ⟨u', hu', ru⟩ := rel.get hxi
      rw [hz'] at hu'
      cases hu'
      exact ⟨_, hxi, ru⟩
    have wrs : ∀ b o, b ∉ [e, it] → s.heap.get? b = some o → h.get? b = some o := rest
    rw [Int.zero_add] at tT
    refine ⟨.ref T, upd H T (.tup [.int (i : Nat), x]), I0.turnedNew (t' := tk) (ch := [e, it]) wrs off young ?_, rfl, ⟨T, x, rfl, I0.hok.fresh young, hxi, rfl⟩, ⟨st'.1, st'.2.1⟩, fun b hb => ?_⟩
    · obtain ⟨o, e1, e2, e3⟩ := tT
      exact ⟨by show 2 ≤ sizeLine; decide, [_, _], .cons ⟨_, rfl⟩ (.cons rx .nil), o, e1, e2, e3⟩
    · have lb : b < s.heap.objs.size := by
        rcases List.mem_cons.mp hb with rfl | hb
        · exact Heap.lt_size he
        · obtain ⟨_, e1, _⟩ := hit
          rw [List.mem_singleton.mp hb]
          exact Heap.lt_size e1
      rw [upd_ne (Nat.ne_of_lt (Nat.lt_of_lt_of_le lb young))]
      exact (off b hb).1
  · rintro X rfl rfl rfl calm i pins s σ H E I0 off ⟨⟨old, he⟩, hit⟩ ⟨hx, rfl⟩
    obtain ⟨its, rel, tup, line⟩ := I0.tuple hx
    have na := apart hit tup
    have nea : e ≠ a := by
      rintro rfl
      obtain ⟨o', e2, c2, _⟩ := tup
      rw [he] at e2
      cases e2
      injection c2 with c2
      exact absurd c2 (by decide)
    have G := GoesN.enumFrom (elts := elts) (x1 := kk) (pos := tpos) 0 (Draws.tuple (prog := X.prog) (w := X.w) (A := X.A.in1) (I0.ok.hd calm) it a na its.toArray) e ne (by simp [ne, nea]) (by simp)
    have ex : xs.length = its.toArray.size := by rw [List.size_toArray, ← rel.length]
    rw [ex] at he hit
    exact G.stops s (fun s1 => Inv X pins σ H s1) E ⟨⟨old, he⟩, hit, tup⟩ fun h tk rest _ => I0.turnedL (t' := tk) (ch := [e, it]) (fun b o nb q => rest b o nb q) off
  · rintro A i s Q E ⟨⟨_, he⟩, _⟩ h
    exact wpAny_pyIter_enum he h
def iEnT (K : PySem.W.Frag) (ta : TA) : TI := fun σ H R => ta σ H fun vs H1 => ∃ a xs, vs = [.ref a] ∧ SqT K H1 a xs ∧ R (ItET K a xs) H1
theorem pi_enT {X : Cx} {e : Expr} {ta : TA} {p pos tpos : Pos} {elts : List Expr} {kk : Nat} (hg : Gl X "enumerate") (hm : X.mg "enumerate" = none) (ha : PA X [e] ta)
    (hs : starEach [e] X.env = [(false, eval e X.env)] := by rfl) : PI X (.Tuple elts kk tpos) (.Call (.Name "enumerate" p) [e] [] pos) (iEnT X.K ta) := by
  constructor
  intro pins s σ H R I h
  refine Call_ (ld_blt I hg hm boot_enumerate (PyProof.Rows.callWith_type1 (thn (ha.run pos pins s σ H _ I h) ?_) hs rfl))
  rintro us s1 ⟨vs, H1, I1, r1, a, xs, rfl, hx, q⟩
  obtain ⟨u, rfl, e⟩ := vals1 r1
  cases (show u = Value.ref a from e)
  obtain ⟨its, rel, tup, line⟩ := I1.tuple hx
  refine callType_new F.called_enumerate (by decide) (F.typeCall_enumerate_1 _) (F.newCall_enumerate_1 _) (fun obj => F.args_object_init_2 obj _) F.entry_enumerate_new (enum_makes (begins_tuple a its.toArray)) ⟨tup, ?_⟩
  have size : (s1.heap.push { cls := .type "tuple_iterator", data := .fields #[.ref a, .int 0 0] }).objs.size = s1.heap.objs.size + 1 := Heap.size_push ..
  have made : IsEnum ((s1.heap.push { cls := .type "tuple_iterator", data := .fields #[.ref a, .int 0 0] }).push { cls := .type "enumerate", data := .fields #[.none, .bool false, .ref s1.heap.objs.size, rawInt 0, .none, .none] }) (s1.heap.objs.size + 1) s1.heap.objs.size (0 + ((0 : Nat) : Int)) .none := by
    rw [← size]
    exact Heap.get?_push_size _ rfl
  have iter : ((s1.heap.push { cls := .type "tuple_iterator", data := .fields #[.ref a, .int 0 0] }).push { cls := .type "enumerate", data := .fields #[.none, .bool false, .ref s1.heap.objs.size, rawInt 0, .none, .none] }).IsTupleIter s1.heap.objs.size a 0 :=
    ⟨_, Heap.get?_push_of_some _ (Heap.get?_push_size _ rfl), rfl, rfl⟩
  show _ ∧ _
  rw [size]
  refine ⟨⟨_, made, rfl⟩, wpAny_pyIter_enum made ⟨s1.heap.objs.size + 1, _, _, _, H1, rfl, I1.kept (t' := s1.toks) (fun b o x => Heap.get?_push_of_some _ (Heap.get?_push_of_some _ x)), turnET a _ _ (Nat.succ_ne_self _), ⟨⟨.none, made⟩, iter⟩, ?_, q⟩⟩
  have young : ∀ k : Nat, FpOk X pins H1 (s1.heap.objs.size + k) := fun k => I1.fpOk (Nat.le_add_right _ _) (I1.hok.fresh (Nat.le_add_right _ _))
  simp only [List.forall_mem_cons]
  exact ⟨young 1, young 0, fun _ q => nomatch q⟩
theorem walkET {K : PySem.W.Frag} {a : Addr} {xs : List V} : Walk (ItET K a xs) xs.length (fun H => SqT K H a xs) (fun i H v H' => ∃ T x, v = .ref T ∧ H T = none ∧ xs[i]? = some x ∧ H' = upd H T (.tup [.int (i : Nat), x])) :=
  ⟨fun _ _ h q => ⟨q, h⟩, fun _ q => ⟨q, rfl⟩, fun _ _ _ _ _ _ h => h⟩
end Own

namespace Own
open PySem PySem.Spec PyProof.Rows L2 SX
/-! ### parts: (true, turn) for a blank, (false, text) for fixed letters side by side -/
abbrev Part := Bool × List Nat
def pstep (F : List Part) (x : List Nat) : List Part :=
  if 1 < x.length then F ++ [(true, x)] else
    match F.getLast? with
    | some (false, t) => F.dropLast ++ [(false, t ++ x)]
    | _ => F ++ [(false, x)]
def pL (its : List (List Nat)) : List Part := its.foldl pstep []
def tp (l : List (List Nat)) : List Part := if l = [] then [] else [(false, l.flatten)]
def NoTx (F : List Part) : Prop := ∀ t, F.getLast? ≠ some (false, t)
theorem pstep_blank {F : List Part} {x : List Nat} (h : 1 < x.length) : pstep F x = F ++ [(true, x)] := by unfold pstep; rw [if_pos h]
theorem pstep_on {F : List Part} {t x : List Nat} (h : ¬ 1 < x.length) : pstep (F ++ [(false, t)]) x = F ++ [(false, t ++ x)] := by
  unfold pstep
  rw [if_neg h, List.getLast?_concat]
  simp
theorem pstep_new {F : List Part} {x : List Nat} (h : ¬ 1 < x.length) (n : NoTx F) : pstep F x = F ++ [(false, x)] := by
  unfold pstep
  rw [if_neg h]
  split
  · rename_i t e
    exact absurd e (n t)
  · rfl
theorem fold_on {F : List Part} : ∀ (l : List (List Nat)) (t : List Nat), (∀ x ∈ l, ¬ 1 < x.length) → l.foldl pstep (F ++ [(false, t)]) = F ++ [(false, t ++ l.flatten)]
  | [], t, _ => by simp
  | x :: r, t, h => by
    rw [List.foldl_cons, pstep_on (h x (List.mem_cons_self ..)), fold_on r _ fun y hy => h y (List.mem_cons_of_mem _ hy)]
    simp
theorem fold_let {F : List Part} {l : List (List Nat)} (h : ∀ x ∈ l, ¬ 1 < x.length) (n : NoTx F) : l.foldl pstep F = F ++ tp l := by
  cases l with
  | nil => simp [tp]
  | cons x r =>
    rw [List.foldl_cons, pstep_new (h x (List.mem_cons_self ..)) n, fold_on r x fun y hy => h y (List.mem_cons_of_mem _ hy)]
    unfold tp
    rw [if_neg (by simp)]
    simp
theorem pL_snoc {its : List (List Nat)} {i : Nat} {x : List Nat} (h : its[i]? = some x) : pL (its.take (i + 1)) = pstep (pL (its.take i)) x := by
  unfold pL
  rw [List.take_add_one, h, List.foldl_append]
  rfl
/-- the items before place i are those before start and, from there on, letters -/
theorem pL_mid {its : List (List Nat)} {st i : Nat} (hs : st ≤ i) (n : NoTx (pL (its.take st))) (h : ∀ x ∈ (its.take i).drop st, ¬ 1 < x.length) : pL (its.take i) = pL (its.take st) ++ tp ((its.take i).drop st) := by
  rw [← fold_let h n]
  unfold pL
  rw [← List.foldl_append]
  congr 1
  have : its.take st = (its.take i).take st := by rw [List.take_take, Nat.min_eq_left hs]
  rw [this, List.take_append_drop]
theorem noTx_nil : NoTx [] := fun t h => by simp at h
theorem noTx_blank {F : List Part} {x : List Nat} : NoTx (F ++ [(true, x)]) := fun t h => by
  rw [List.getLast?_concat] at h
  cases h
theorem pL_len (its : List (List Nat)) : (pL its).length ≤ its.length := by
  unfold pL
  suffices ∀ (l : List (List Nat)) (F : List Part), (l.foldl pstep F).length ≤ F.length + l.length by simpa using this its []
  intro l
  induction l with
  | nil => intro F; simp
  | cons x r ih =>
    intro F
    refine Nat.le_trans (ih (pstep F x)) ?_
    have : (pstep F x).length ≤ F.length + 1 := by
      unfold pstep
      split
      · simp
      · split
        · rename_i t e
          have : F ≠ [] := fun h => by rw [h] at e; simp at e
          have := List.length_pos_iff.mpr this
          simp only [List.length_append, List.length_dropLast, List.length_singleton]
          omega
        · simp
    rw [List.length_cons]
    omega
/-! ### parts as they lie -/
def kd (b : Bool) : V := .str (Str.ofString (if b then "blank" else "text"))
inductive PsA (H : Hp) : List Addr → List Part → Prop
  | nil : PsA H [] []
  | cons {a : Addr} {p : Part} {as : List Addr} {ps : List Part} : H a = some (.tup [kd p.1, tx p.2]) → PsA H as ps → PsA H (a :: as) (p :: ps)
theorem PsA.same {H H' : Hp} (s : Same H H') {as : List Addr} {ps : List Part} (h : PsA H as ps) : PsA H' as ps := by
  induction h with
  | nil => exact .nil
  | cons h _ ih => exact .cons (s _ _ h) ih
theorem PsA.put {H : Hp} {D : Addr} {xs ys : List V} (hD : H D = some (.lst xs)) {as : List Addr} {ps : List Part} (h : PsA H as ps) : PsA (upd H D (.lst ys)) as ps := by
  induction h with
  | nil => exact .nil
  | cons h _ ih => exact .cons (by rw [upd_ne (ne_of h hD fun e => by cases e)]; exact h) ih
theorem PsA.app {H : Hp} {as bs : List Addr} {ps qs : List Part} (h : PsA H as ps) (h' : PsA H bs qs) : PsA H (as ++ bs) (ps ++ qs) := by
  induction h with
  | nil => exact h'
  | cons h _ ih => exact .cons h ih
theorem PsA.len {H : Hp} {as : List Addr} {ps : List Part} (h : PsA H as ps) : as.length = ps.length := by
  induction h with
  | nil => rfl
  | cons _ _ ih => rw [List.length_cons, List.length_cons, ih]
theorem PsA.one {H : Hp} {a : Addr} {p : Part} (h : H a = some (.tup [kd p.1, tx p.2])) : PsA H [a] [p] := .cons h .nil
theorem PsA.get {H : Hp} {as : List Addr} {ps : List Part} (h : PsA H as ps) : ∀ (i : Nat) (a : Addr) (p : Part), as[i]? = some a → ps[i]? = some p → H a = some (.tup [kd p.1, tx p.2]) := by
  induction h with
  | nil => intro i a p h; simp at h
  | cons h _ ih =>
    intro i a p ha hp
    cases i with
    | zero => cases ha; cases hp; exact h
    | succ i => exact ih i a p ha hp
/-- the last one apart -/
theorem PsA.last {H : Hp} {as : List Addr} {F : List Part} {p : Part} (h : PsA H as (F ++ [p])) : ∃ bs a, as = bs ++ [a] ∧ PsA H bs F ∧ H a = some (.tup [kd p.1, tx p.2]) := by
  induction F generalizing as with
  | nil =>
    cases h with
    | cons h r =>
      cases r
      exact ⟨[], _, rfl, .nil, h⟩
  | cons q F ih =>
    cases h with
    | cons h r =>
      obtain ⟨bs, a, rfl, h1, h2⟩ := ih r
      exact ⟨_ :: bs, a, rfl, .cons h h1, h2⟩
/-- a list of parts at l -/
def PsL (H : Hp) (l : Addr) (ps : List Part) : Prop := ∃ as, H l = some (.lst (as.map V.ref)) ∧ PsA H as ps
theorem PsL.same {H H' : Hp} {l : Addr} {ps : List Part} (h : PsL H l ps) (s : Same H H') : PsL H' l ps := let ⟨as, h1, h2⟩ := h; ⟨as, s _ _ h1, h2.same s⟩
/-- two lists of the same parts are the same data -/
theorem PsL.eqd {K : PySem.W.Frag} {H : Hp} {n : Nat} {l l' : Addr} {ps : List Part} (h : PsL H l ps) (h' : PsL H l' ps) (hl : ps.length ≤ 1000) : Eqd K H (n + 3) (.ref l) (.ref l') := by
  obtain ⟨as, h1, h2⟩ := h
  obtain ⟨bs, h3, h4⟩ := h'
  refine Or.inr ⟨l, l', _, _, rfl, rfl, .inl ⟨.inl (.inl h1), .inl (.inl h3)⟩, by rw [List.length_map, h2.len]; exact hl, by rw [List.length_map, List.length_map, h2.len, h4.len], fun i u v hu hv => ?_⟩
  rw [List.getElem?_map] at hu hv
  obtain ⟨a, ha, rfl⟩ := Option.map_eq_some_iff.mp hu
  obtain ⟨b, hb, rfl⟩ := Option.map_eq_some_iff.mp hv
  have hi : i < ps.length := by rw [← h2.len]; exact (List.getElem?_eq_some_iff.mp ha).1
  have hp := List.getElem?_eq_getElem hi
  exact Eqd.tup (n := n) (h2.get i a _ ha hp) (h4.get i b _ hb hp) (by show 2 ≤ 1000; decide) (by intro x hx; simp only [List.mem_cons, List.not_mem_nil, or_false] at hx; rcases hx with e | e <;> (rw [e]; trivial))
/-! ### parts as data -/
def pd (p : Part) : PyData := .tuple [.str (Str.ofString (if p.1 then "blank" else "text")), .str (S p.2)]
def PlainP (ps : List Part) : Prop := ∀ p ∈ ps, ∀ k ∈ p.2, k < 128
theorem dp_ps {K : PySem.W.Frag} {H : Hp} {as : List Addr} {ps : List Part} (h : PsA H as ps) : DpAll K H (as.map V.ref) (ps.map pd) := by
  induction h with
  | nil => exact .nil
  | cons h _ ih => exact .cons (.tup (.inl (.inl h)) (.cons (.str _) (.cons (.str _) .nil))) ih
theorem lay_str {c : List Nat} (h : ∀ k ∈ c, k < 128) : PyData.canLay0 (.str (S c)) = true := by
  have := lay_tx [c] (fun x hx k hk => by rw [List.mem_singleton.mp hx] at hk; exact h k hk)
  show ((c.toArray).all (fun k => decide (k < 1114112))) = true
  rw [List.all_toArray, List.all_eq_true]
  intro k hk
  have := h k hk
  exact decide_eq_true (show k < 1114112 by omega)
theorem lay_ps : ∀ ps : List Part, PlainP ps → PyData.canLayAll0 (ps.map pd) = true
  | [], _ => rfl
  | p :: r, h => by
    show (PyData.canLay0 (pd p) && PyData.canLayAll0 (r.map pd)) = true
    rw [lay_ps r fun x hx => h x (List.mem_cons_of_mem _ hx), Bool.and_true]
    show ((PyData.canLay0 (.str (Str.ofString (if p.1 then "blank" else "text")))) && (PyData.canLay0 (.str (S p.2)) && true)) = true
    rw [lay_str (h p (List.mem_cons_self ..))]
    cases p.1 <;> decide +kernel
theorem dep_ps : ∀ ps : List Part, PyData.depthAll (ps.map pd) ≤ 1
  | [] => Nat.zero_le _
  | p :: r => by
    show max (PyData.depth (pd p)) (PyData.depthAll (r.map pd)) ≤ 1
    have h1 : PyData.depth (pd p) = 1 := rfl
    have := dep_ps r
    omega
theorem shp_ps {ps : List Part} (h : PlainP ps) : SeqAt.shaped (.list (ps.map pd)) = true := by
  unfold SeqAt.shaped
  show (PyData.canLayAll0 (ps.map pd) && decide (PyData.depthAll (ps.map pd) + 1 ≤ 64)) = true
  rw [lay_ps ps h, decide_eq_true (by have := dep_ps ps; omega)]
  rfl
theorem eqv_ps {ps : List Part} : PyData.eqv (.list (ps.map pd)) (.list []) = decide (ps = []) := by
  cases ps with
  | nil => rfl
  | cons p r =>
    rw [decide_eq_false (fun e => by cases e)]
    rfl
theorem plain_step {F : List Part} {x : List Nat} (h : PlainP F) (hx : ∀ k ∈ x, k < 128) : PlainP (pstep F x) := by
  unfold pstep
  split
  · intro p hp k hk
    rcases List.mem_append.mp hp with e | e
    · exact h p e k hk
    · rw [List.mem_singleton.mp e] at hk
      exact hx k hk
  · split
    · rename_i t e
      intro p hp k hk
      rcases List.mem_append.mp hp with e' | e'
      · exact h p (List.dropLast_subset _ e') k hk
      · rw [List.mem_singleton.mp e'] at hk
        rcases List.mem_append.mp hk with hk | hk
        · exact h (false, t) (List.mem_of_getLast? e) k hk
        · exact hx k hk
    · intro p hp k hk
      rcases List.mem_append.mp hp with e | e
      · exact h p e k hk
      · rw [List.mem_singleton.mp e] at hk
        exact hx k hk
theorem plain_pL {its : List (List Nat)} (h : Plain its) : PlainP (pL its) := by
  unfold pL
  suffices ∀ (l : List (List Nat)) (F : List Part), Plain l → PlainP F → PlainP (l.foldl pstep F) from this its [] h (fun p hp => nomatch hp)
  intro l
  induction l with
  | nil => intro F _ h; exact h
  | cons x r ih => intro F hl hF; exact ih _ (fun y hy => hl y (List.mem_cons_of_mem _ hy)) (plain_step hF (hl x (List.mem_cons_self ..)))
/-- how long a text part may be -/
def ShortP (n : Nat) (ps : List Part) : Prop := ∀ p ∈ ps, p.2.length ≤ n
theorem short_step {F : List Part} {x : List Nat} {n m : Nat} (h : ShortP n F) (hx : x.length ≤ m) : ShortP (n + m) (pstep F x) := by
  unfold pstep
  split
  · intro p hp
    rcases List.mem_append.mp hp with e | e
    · have := h p e; omega
    · rw [List.mem_singleton.mp e]; show x.length ≤ _; omega
  · split
    · rename_i t e
      intro p hp
      rcases List.mem_append.mp hp with e' | e'
      · have := h p (List.dropLast_subset _ e'); omega
      · rw [List.mem_singleton.mp e']
        have := h (false, t) (List.mem_of_getLast? e)
        show (t ++ x).length ≤ _
        rw [List.length_append]
        have : t.length ≤ n := this
        omega
    · intro p hp
      rcases List.mem_append.mp hp with e | e
      · have := h p e; omega
      · rw [List.mem_singleton.mp e]; show x.length ≤ _; omega
theorem ix_last {n : Nat} : ixN (n + 1) (-1) = some n := by
  unfold ixN
  simp
  omega
theorem small_log {n : Nat} (h : n < 101) : ((n : Nat) : Int).natAbs.log2 < 1920 := by
  rw [Int.natAbs_natCast]
  by_cases h0 : n = 0
  · rw [h0]; decide
  · exact (Nat.log2_lt h0).mpr (Nat.lt_of_lt_of_le h (by decide))
theorem len_app (a b : Str) : (a ++ b).length = a.length + b.length := Array.size_append
theorem app_app (a b c : Str) : a ++ b ++ c = a ++ (b ++ c) := by
  show (⟨a.cps ++ b.cps ++ c.cps⟩ : Str) = ⟨a.cps ++ (b.cps ++ c.cps)⟩
  rw [Array.append_assoc]
theorem emp_app (a : Str) : Str.empty ++ a = a := by
  show (⟨#[] ++ a.cps⟩ : Str) = a
  rw [Array.empty_append]
theorem tos_all : ∀ n ∈ List.range 101, (toString ((n : Nat) : Int) : Str).length ≤ 3 := by decide +kernel
theorem tos_len {n : Nat} (h : n < 101) : (toString ((n : Nat) : Int) : Str).length ≤ 3 := tos_all n (List.mem_range.mpr h)
/-! ### promises -/
def spTp (K : PySem.W.Frag) : Sp := fun vs H Q _ => ∃ (a : Addr) (its : List (List Nat)), vs = [.ref a] ∧ SqT K H a (its.map tx) ∧ its.length ≤ 900 ∧ (∀ x ∈ its, x.length ≤ 900) ∧ ∀ H' l, Same H H' → H l = none → PsL H' l (tp its) → Q (.ref l) H'
def spRp (K : PySem.W.Frag) : Sp := fun vs H Q _ => ∃ (a : Addr) (its : List (List Nat)), vs = [.ref a] ∧ SqT K H a (its.map tx) ∧ its.length ≤ 900 ∧ (∀ x ∈ its, x.length ≤ 900) ∧ ∀ H' l, Same H H' → H l = none → PsL H' l (pL its) → Q (.ref l) H'
def spPa (C : Addr) : Sp := fun vs H Q _ => ∃ (a : Addr) (gs : List Nat) (its : List (List Nat)), vs = [.ref a] ∧ Tm C H a gs its ∧ its.length ≤ 900 ∧ (∀ x ∈ its, x.length ≤ 900) ∧ ∀ H' l, Same H H' → H l = none → PsL H' l (pL its) → Q (.ref l) H'
def spLe (C : Addr) : Sp := fun vs H Q _ => ∃ (a : Addr) (gs : List Nat) (its : List (List Nat)), vs = [.ref a] ∧ Tm C H a gs its ∧ its.length ≤ 900 ∧ (∀ x ∈ its, x.length ≤ 900) ∧ ∀ H', Same H H' → Q (.int ((pL its).length : Nat)) H'
def spLr (C : Addr) : Sp := fun vs H Q _ => ∃ (a : Addr) (gs : List Nat) (its : List (List Nat)), vs = [.ref a] ∧ Tm C H a gs its ∧ Q (tx gs) H
/-- what repr tells -/
def repS (b n : Nat) : Str := Str.empty ++ Str.ofString "Template(" ++ toString ((b : Nat) : Int) ++ Str.ofString " blanks, " ++ toString ((n : Nat) : Int) ++ Str.ofString " letters)"
def spRe (C : Addr) : Sp := fun vs H Q _ => ∃ (a : Addr) (gs : List Nat) (its : List (List Nat)), vs = [.ref a] ∧ Tm C H a gs its ∧ its.length ≤ 100 ∧ (∀ x ∈ its, x.length ≤ 900) ∧ ∀ H', Same H H' → Q (.str (repS (nBl its) (nLt its))) H'
def spLpa (K : PySem.W.Frag) : Sp := fun vs H Q _ => ∃ (a : Addr) (its : List (List Nat)), vs = [.ref a] ∧ SqL K H a (its.map tx) ∧ its.length ≤ 100 ∧ (∀ x ∈ its, 0 < x.length ∧ x.length ≤ 4) ∧ Plain its ∧ ∀ H' l, Same H H' → H l = none → PsL H' l (pL its) → Q (.ref l) H'
end Own

namespace Own
open PySem PySem.Spec PyProof.Rows L2 SX
/-! ### texts of templates that cannot be read -/
/-- neither a letter nor a whole blank begins here -/
def Stuck (gs rest : List Nat) : Prop := rest ≠ [] ∧ (∀ c r, rest = c :: r → c ∉ gs) ∧ (∀ post, rest ≠ [123, 125] ++ post) ∧ ∀ x post, rest = [123] ++ x ++ [125] ++ post → ¬ x.Perm gs
/-- the first character that cannot stand there -/
def Fault (gs t : List Nat) (n : Nat) : Prop := t ≠ [45] ∧ ((t = [] ∧ n = 0) ∨ ∃ its zs rest, Forms gs its zs ∧ t = zs.flatten ++ rest ∧ Stuck gs rest ∧ n = zs.flatten.length)
theorem forms_snoc {gs : List Nat} {its zs : List (List Nat)} {x z : List Nat} (h : Forms gs its zs) (hx : Form gs x z) : Forms gs (its ++ [x]) (zs ++ [z]) := by
  induction h with
  | nil => exact .cons hx .nil
  | cons h _ ih => exact .cons h ih
theorem flat_snoc (zs : List (List Nat)) (z : List Nat) : (zs ++ [z]).flatten = zs.flatten ++ z := by simp
/-- what begins at a place -/
theorem begins (gs rest : List Nat) : rest = [] ∨ (∃ c r, rest = c :: r ∧ c ∈ gs) ∨ ((∀ c r, rest = c :: r → c ∉ gs) ∧ ∃ post, rest = [123, 125] ++ post) ∨
    ((∀ c r, rest = c :: r → c ∉ gs) ∧ ∃ x post, rest = [123] ++ x ++ [125] ++ post ∧ x.Perm gs) ∨ Stuck gs rest := by
  by_cases h0 : rest = []
  · exact .inl h0
  by_cases h1 : ∃ c r, rest = c :: r ∧ c ∈ gs
  · exact .inr (.inl h1)
  have n1 : ∀ c r, rest = c :: r → c ∉ gs := fun c r e h => h1 ⟨c, r, e, h⟩
  by_cases h2 : ∃ post, rest = [123, 125] ++ post
  · exact .inr (.inr (.inl ⟨n1, h2⟩))
  by_cases h3 : ∃ x post, rest = [123] ++ x ++ [125] ++ post ∧ x.Perm gs
  · exact .inr (.inr (.inr (.inl ⟨n1, h3⟩)))
  exact .inr (.inr (.inr (.inr ⟨h0, n1, fun post e => h2 ⟨post, e⟩, fun x post e p => h3 ⟨x, post, e, p⟩⟩)))
/-- a text is read to its end, or up to a fault -/
theorem parse (gs : List Nat) : ∀ (n : Nat) (t : List Nat), t.length ≤ n → ∃ its zs rest, Forms gs its zs ∧ t = zs.flatten ++ rest ∧ (rest = [] ∨ Stuck gs rest) := by
  intro n
  induction n with
  | zero =>
    intro t h
    exact ⟨[], [], [], .nil, List.length_eq_zero_iff.mp (Nat.le_zero.mp h), .inl rfl⟩
  | succ n ih =>
    intro t h
    have go : ∀ (x z post : List Nat), t = z ++ post → 0 < z.length → Form gs x z → ∃ its zs rest, Forms gs its zs ∧ t = zs.flatten ++ rest ∧ (rest = [] ∨ Stuck gs rest) := by
      intro x z post e hz hf
      rw [e, List.length_append] at h
      obtain ⟨its, zs, rest, h1, h2, h3⟩ := ih post (by omega)
      exact ⟨x :: its, z :: zs, rest, .cons hf h1, by rw [e, h2]; simp, h3⟩
    rcases begins gs t with e | ⟨c, r, e, hc⟩ | ⟨_, post, e⟩ | ⟨_, x, post, e, hp⟩ | hs
    · exact ⟨[], [], [], .nil, e, .inl rfl⟩
    · exact go [c] [c] r e Nat.one_pos (.one hc)
    · exact go gs [123, 125] post e (by decide) .plain
    · exact go x ([123] ++ x ++ [125]) post e (by simp) (.turn hp)
    · exact ⟨[], [], t, .nil, rfl, .inr hs⟩
theorem reads (gs t : List Nat) : (∃ its, Rd gs its t) ∨ ∃ n, Fault gs t n := by
  by_cases h0 : t = [45]
  · exact .inl ⟨[], .inl ⟨rfl, h0⟩⟩
  by_cases h1 : t = []
  · exact .inr ⟨0, h0, .inl ⟨h1, rfl⟩⟩
  obtain ⟨its, zs, rest, h2, h3, h4⟩ := parse gs t.length t (Nat.le_refl _)
  rcases h4 with e | hs
  · rw [e, List.append_nil] at h3
    refine .inl ⟨its, .inr ⟨fun e => ?_, zs, h2, h3⟩⟩
    subst e
    cases h2
    exact h1 h3
  · exact .inr ⟨_, h0, .inr ⟨its, zs, rest, h2, h3, hs, rfl⟩⟩
theorem cut_rest {pre rest : List Nat} {i j : Int} {a b : Nat} (h1 : i = ((pre.length + a : Nat) : Int)) (h2 : j = ((pre.length + b : Nat) : Int)) : Txt.slice (S (pre ++ rest)) (some i) (some j) = S ((rest.take b).drop a) := by
  rw [h1, h2, slice_mid, List.take_length_add_append, List.drop_length_add_append]
theorem good_valid {gs : List Nat} (v : Valid gs) : Good gs := ⟨v.lo, v.hi, v.nd, v.az⟩
theorem valid_good {gs : List Nat} (v : Good gs) : Valid gs := ⟨v.lo, v.hi, v.az, v.nd⟩
/-- up to the first closing brace -/
theorem cut125 : ∀ r : List Nat, 125 ∉ r ∨ ∃ body post, r = body ++ 125 :: post ∧ 125 ∉ body
  | [] => .inl (fun h => nomatch h)
  | c :: r => by
    by_cases hc : c = 125
    · exact .inr ⟨[], r, by rw [hc]; rfl, fun h => nomatch h⟩
    · rcases cut125 r with h | ⟨body, post, e, h⟩
      · exact .inl (fun m => (List.mem_cons.mp m).elim (fun e => hc e.symm) h)
      · exact .inr ⟨c :: body, post, by rw [e]; rfl, fun m => (List.mem_cons.mp m).elim (fun e => hc e.symm) h⟩
theorem cut_one {a b p q : List Nat} (ha : 125 ∉ a) (hb : 125 ∉ b) (e : a ++ 125 :: p = b ++ 125 :: q) : a = b := by
  induction a generalizing b with
  | nil =>
    cases b with
    | nil => rfl
    | cons y b => exact absurd (List.cons.inj e).1 (fun h => hb (h ▸ List.mem_cons_self ..))
  | cons x a ih =>
    cases b with
    | nil => exact absurd (List.cons.inj e).1 (fun h => ha (h ▸ List.mem_cons_self ..))
    | cons y b =>
      obtain ⟨e1, e2⟩ := List.cons.inj e
      rw [e1, ih (fun m => ha (List.mem_cons_of_mem _ m)) (fun m => hb (List.mem_cons_of_mem _ m)) e2]
theorem stuck_by {gs : List Nat} (hg : Good gs) {c : Nat} {r : List Nat} (hc : c ∉ gs) (h : c ≠ 123 ∨ 125 ∉ r ∨ ∃ body post, r = body ++ 125 :: post ∧ 125 ∉ body ∧ body ≠ [] ∧ ¬ body.Perm gs) : Stuck gs (c :: r) := by
  have n125 : 125 ∉ gs := fun h => by have := hg.az _ h; omega
  refine ⟨List.cons_ne_nil _ _, (fun c' r' e => (List.cons.inj e).1 ▸ hc), fun post e => ?_, fun x post e p => ?_⟩
  · obtain ⟨e1, e2⟩ := List.cons.inj (show c :: r = 123 :: 125 :: post from e)
    rcases h with h | h | ⟨body, post', er, hb, hne, _⟩
    · exact h e1
    · exact h (by rw [e2]; exact List.mem_cons_self ..)
    · exact hne (cut_one hb (fun h => nomatch h) (p := post') (q := post) (by rw [← er, e2]; rfl))
  · obtain ⟨e1, e2⟩ := List.cons.inj (show c :: r = 123 :: (x ++ [125] ++ post) by rw [e]; simp)
    have nx : 125 ∉ x := fun m => n125 (p.mem_iff.mp m)
    rcases h with h | h | ⟨body, post', er, hb, _, hn⟩
    · exact h e1
    · exact h (by rw [e2]; simp)
    · have := cut_one hb nx (p := post') (q := post) (by rw [← er, e2]; simp)
      exact hn (this ▸ p)
/-- a fault is one place -/
theorem forms_cut {gs : List Nat} (hg : Good gs) : ∀ {its zs : List (List Nat)} {jts ys : List (List Nat)} {rest rest' : List Nat}, Forms gs its zs → Forms gs jts ys → zs.flatten ++ rest = ys.flatten ++ rest' → (rest = [] ∨ Stuck gs rest) → (rest' = [] ∨ Stuck gs rest') → zs.flatten = ys.flatten := by
  have n123 : 123 ∉ gs := fun h => by have := hg.az _ h; omega
  have n125 : 125 ∉ gs := fun h => by have := hg.az _ h; omega
  -- a form at the beginning is no stuck place
  have no : ∀ {x z r rest : List Nat}, Form gs x z → rest = z ++ r → (rest = [] ∨ Stuck gs rest) → False := by
    intro x z r rest hf e h
    rcases h with h | ⟨_, h1, h2, h3⟩
    · rw [h] at e
      exact form_ne hf (List.append_eq_nil_iff.mp e.symm).1
    · cases hf with
      | one hc => exact h1 _ _ e hc
      | turn p => exact h3 x r (by rw [e]) p
      | plain => exact h2 r e
  have len : ∀ {x z x' z' r r' : List Nat}, Form gs x z → Form gs x' z' → z ++ r = z' ++ r' → z = z' := by
    intro x z x' z' r r' h h' e
    cases h with
    | one hc =>
      cases h' with
      | one hc' => rw [(List.cons.inj (show _ :: _ = _ :: _ from e)).1]
      | turn p => exact absurd ((List.cons.inj (show _ :: r = 123 :: _ from e)).1 ▸ hc) n123
      | plain => exact absurd ((List.cons.inj (show _ :: r = 123 :: _ from e)).1 ▸ hc) n123
    | turn p =>
      have nx : 125 ∉ x := fun m => n125 (p.mem_iff.mp m)
      cases h' with
      | one hc' => exact absurd ((List.cons.inj (show 123 :: _ = _ :: r' from e)).1 ▸ hc') n123
      | turn p' =>
        have nx' : 125 ∉ x' := fun m => n125 (p'.mem_iff.mp m)
        have e2 : x ++ 125 :: r = x' ++ 125 :: r' := by simpa using e
        rw [cut_one nx nx' e2]
      | plain =>
        have e2 : x ++ 125 :: r = [] ++ 125 :: r' := by simpa using e
        have := cut_one nx List.not_mem_nil e2
        rw [this]
        rfl
    | plain =>
      cases h' with
      | one hc' => exact absurd ((List.cons.inj (show 123 :: _ = _ :: r' from e)).1 ▸ hc') n123
      | turn p' =>
        have nx' : 125 ∉ x' := fun m => n125 (p'.mem_iff.mp m)
        have e2 : [] ++ 125 :: r = x' ++ 125 :: r' := by simpa using e
        have := cut_one List.not_mem_nil nx' e2
        rw [← this]
        rfl
      | plain => rfl
  intro its zs jts ys rest rest' h
  induction h generalizing jts ys with
  | nil =>
    intro h' e hr hr'
    cases h' with
    | nil => rfl
    | cons a b => exact (no a (by rw [show rest = [] ++ rest from rfl]; simpa using e) hr).elim
  | cons a b ih =>
    intro h' e hr hr'
    cases h' with
    | nil => exact (no a (by simpa using e.symm) hr').elim
    | cons a' b' =>
      rw [List.flatten_cons, List.flatten_cons, List.append_assoc, List.append_assoc] at e
      have ez := len a a' e
      subst ez
      rw [List.flatten_cons, List.flatten_cons, ih b' (List.append_cancel_left e) hr hr']
theorem fault_one {gs t : List Nat} (hg : Good gs) {n m : Nat} (h : Fault gs t n) (h' : Fault gs t m) : n = m := by
  obtain ⟨_, ⟨e, rfl⟩ | ⟨its, zs, rest, h1, h2, h3, rfl⟩⟩ := h
  · obtain ⟨_, ⟨_, rfl⟩ | ⟨its, zs, rest, h1, h2, h3, rfl⟩⟩ := h'
    · rfl
    · rw [e] at h2
      exact absurd (List.append_eq_nil_iff.mp h2.symm).2 h3.1
  · obtain ⟨_, ⟨e, rfl⟩ | ⟨its', zs', rest', k1, k2, k3, rfl⟩⟩ := h'
    · rw [e] at h2
      exact absurd (List.append_eq_nil_iff.mp h2.symm).2 h3.1
    · rw [forms_cut hg h1 k1 (h2.symm.trans k2) (.inr h3) (.inr k3)]
theorem no_both {gs t : List Nat} (hg : Good gs) {its : List (List Nat)} {n : Nat} (h : Rd gs its t) (h' : Fault gs t n) : False := by
  obtain ⟨nt, h'⟩ := h'
  rcases h with ⟨_, e⟩ | ⟨hne, zs, hf, e⟩
  · exact nt e
  · rcases h' with ⟨e', _⟩ | ⟨its', zs', rest, h1, h2, h3, _⟩
    · cases hf with
      | nil => exact hne rfl
      | cons a _ =>
        rw [e', List.flatten_cons] at e
        exact form_ne a (List.append_eq_nil_iff.mp e.symm).1
    · have e2 := forms_cut hg hf h1 (rest := []) (by rw [List.append_nil, ← e, h2]) (.inl rfl) (.inr h3)
      rw [e, e2] at h2
      have : rest = [] := by
        have := congrArg List.length h2
        rw [List.length_append] at this
        exact List.length_eq_zero_iff.mp (by omega)
      exact h3.1 this
/-! ### promises -/
def spLfa : Sp := fun vs H Q _ => ∃ (gs t : List Nat), vs = [tx gs, tx t] ∧ Good gs ∧ t.length ≤ 1000 ∧ ((∃ its, Rd gs its t) → ∀ H', Same H H' → Q (.int (-1)) H') ∧ ∀ n, Fault gs t n → ∀ H', Same H H' → Q (.int (n : Nat)) H'
def spBw0 : Sp := fun vs H Q _ => ∃ (gs pre rest : List Nat), vs = [tx gs, tx (pre ++ rest), .int (pre.length : Int)] ∧ Good gs ∧ (pre ++ rest).length ≤ 1000 ∧ (∀ c ∈ rest, c < 128) ∧ Stuck gs rest ∧ ∀ H', Same H H' → Q (.int 0) H'
def spRdX (C : Addr) : Sp := fun vs H Q E => ∃ (gs t : List Nat), vs = [tx gs, tx t] ∧ Good gs ∧ t.length ≤ 1000 ∧ (∀ c ∈ t, c < 128) ∧
  (∀ its, Rd gs its t → ∀ H' p, Same H H' → H p = none → H' p = some (.lst (its.map tx)) → Q (.ref p) H') ∧
  ∀ n, Fault gs t n → ∀ H' d, Same H H' → H' d = some (.xd [("position", .int (n : Nat)), ("code", .str "ParseError")]) → E (.ref C) (some d) H'
def spTiX (C CP CI : Addr) : Sp := fun vs H Q E => ∃ (x dx : Addr) (gs t : List Nat), vs = [.ref x, tx gs, tx t] ∧ H x = some (.ins C dx []) ∧ gs.length ≤ 1000 ∧ t.length ≤ 1000 ∧ (∀ c ∈ t, c < 128) ∧
  (Good gs → ∀ its, Rd gs its t → ∀ H', (∀ b o, b ≠ x → H b = some o → H' b = some o) → Tm C H' x gs its → Q .non H') ∧
  (Good gs → ∀ n, Fault gs t n → ∀ H' d, (∀ b o, b ≠ x → H b = some o → H' b = some o) → H' d = some (.xd [("position", .int (n : Nat)), ("code", .str "ParseError")]) → E (.ref CP) (some d) H') ∧
  (¬ Valid gs → ∀ H' d, (∀ b o, b ≠ x → H b = some o → H' b = some o) → H' d = some (.xd [("code", .str "InvalidLetters")]) → E (.ref CI) (some d) H')
theorem part_of (r : List Nat) : ∃ b e q, Txt.partition (S r) (S [125]) = (S b, S e, S q) ∧ b.length ≤ r.length ∧ ((125 ∉ r ∧ e = []) ∨ (r = b ++ 125 :: q ∧ 125 ∉ b ∧ e = [125])) := by
  rcases cut125 r with h | ⟨b, q, e, h⟩
  · exact ⟨r, [], [], TL.partition_none (s := 125) (S := []) rfl h, Nat.le_refl _, .inl ⟨h, rfl⟩⟩
  · refine ⟨b, [125], q, ?_, by rw [e, List.length_append]; omega, .inr ⟨e, h, rfl⟩⟩
    have e2 : S r = S b ++ S [125] ++ S q := by
      rw [show S b ++ S [125] = S (b ++ [125]) from S_cat _ _, show S (b ++ [125]) ++ S q = S (b ++ [125] ++ q) from S_cat _ _, e]
      simp
    rw [e2]
    exact TL.partition_app (s := 125) (S := []) rfl h
theorem both {t1 t3 : TE} {σ : L2.St} {H : Hp} {Q : VK} {b1 b3 : Bool} (h1 : ∀ k : VK, k (.bl b1) H → t1 σ H k)
    (h3 : ∀ k : VK, (∀ H', Same H H' → k (.bl b3) H') → t3 σ H k) (q : ∀ H', Same H H' → Q (.bl (b1 && b3)) H') : tAndV t1 t3 σ H Q := by
  refine h1 _ ⟨b1, rfl, ?_⟩
  cases b1 with
  | false => exact iteF (q _ (Same.refl _))
  | true => exact iteT (h3 _ fun H' s => q _ s)
theorem pe_or {X : Cx} {e : Expr} {t1 t2 : TE} (h1 : PE X e t1) (h2 : PE X e t2) : PE X e (fun σ H Q => t1 σ H Q ∨ t2 σ H Q) :=
  ⟨fun pins s σ H Q I h => h.elim (h1.run pins s σ H Q I) (h2.run pins s σ H Q I)⟩
end Own

namespace Own
open PySem PySem.Spec PyProof.Rows L2 SX PySem.StrLaws
/-! ### t.replace("{" + letters + "}", "{}") of a text that can be read is the text in its shortest form -/
abbrev wide1 (gs : List Nat) : List Nat := 123 :: (gs ++ [125])
theorem repl_skip {gs z : List Nat} : ∀ (x r : List Nat), 123 ∉ x → replL (wide1 gs) z (x ++ r) = x ++ replL (wide1 gs) z r
  | [], r, _ => rfl
  | c :: x, r, h => by
    rw [List.cons_append, replL_miss (fun e => h ?_), repl_skip x r (fun m => h (List.mem_cons_of_mem _ m))]
    · rfl
    · have : c = 123 := (List.cons.inj (show c :: _ = 123 :: _ from e)).1
      rw [this]
      exact List.mem_cons_self ..
theorem repl_form {gs x f : List Nat} (hg : Good gs) (h : Form gs x f) (r : List Nat) : replL (wide1 gs) [123, 125] (f ++ r) = iTx gs x ++ replL (wide1 gs) [123, 125] r := by
  have n123 : 123 ∉ gs := fun h => by have := hg.az _ h; omega
  have n125 : 125 ∉ gs := fun h => by have := hg.az _ h; omega
  have hlo := hg.lo
  have e1 : 1 < gs.length := by omega
  cases h with
  | @one c hc =>
    have e : iTx gs [c] = [c] := by unfold iTx; rw [if_neg (by show ¬ 1 < 1; omega)]
    rw [e]
    exact repl_skip [c] r (fun m => n123 (by rw [List.mem_singleton.mp m]; exact hc))
  | plain =>
    have e : iTx gs gs = [123, 125] := by unfold iTx; rw [if_pos e1, if_pos rfl]
    obtain ⟨g, gr, eg⟩ := List.exists_cons_of_ne_nil (List.length_pos_iff.mp (show 0 < gs.length by omega))
    rw [e, show [123, 125] ++ r = 123 :: (125 :: r) from rfl, replL_miss (fun e => ?_), show (125 :: r : List Nat) = [125] ++ r from rfl, repl_skip [125] r (by decide)]
    · rfl
    · rw [eg] at e
      have := (List.cons.inj (List.cons.inj (show 123 :: 125 :: _ = 123 :: g :: _ from e)).2).1
      exact n125 (by rw [eg, this]; exact List.mem_cons_self ..)
  | turn p =>
    have hxl := p.length_eq
    have hx : 1 < x.length := by omega
    have nx : 123 ∉ x := fun m => n123 (p.mem_iff.mp m)
    have ef : [123] ++ x ++ [125] ++ r = 123 :: (x ++ [125] ++ r) := by simp
    have et : (123 :: (x ++ [125] ++ r)).take (wide1 gs).length = 123 :: (x ++ [125]) := by
      have el : (gs ++ [125]).length = (x ++ [125]).length := by rw [List.length_append, List.length_append, hxl]
      have e2 : (x ++ [125] ++ r).take (gs ++ [125]).length = x ++ [125] := by
        rw [el]
        exact List.take_left' rfl
      show 123 :: (x ++ [125] ++ r).take (gs ++ [125]).length = _
      rw [e2]
    by_cases e : x = gs
    · have ei : iTx gs x = [123, 125] := by unfold iTx; rw [if_pos hx, if_pos e]
      rw [ei, ef, replL_hit (List.cons_ne_nil _ _) (by rw [et, e])]
      congr 2
      show (x ++ [125] ++ r).drop (gs ++ [125]).length = r
      rw [← e]; exact List.drop_left' rfl
    · have ei : iTx gs x = [123] ++ x ++ [125] := by unfold iTx; rw [if_pos hx, if_neg e]
      rw [ei, ef, replL_miss (fun h => e ?_), repl_skip (x ++ [125]) r (fun m => (List.mem_append.mp m).elim nx (by decide))]
      · simp
      · rw [et] at h
        exact List.append_cancel_right (List.cons.inj h).2
theorem repl_forms {gs : List Nat} (hg : Good gs) {its zs : List (List Nat)} (h : Forms gs its zs) : replL (wide1 gs) [123, 125] zs.flatten = (its.map (iTx gs)).flatten := by
  induction h with
  | nil => exact replL_nil
  | cons h1 _ ih => rw [List.flatten_cons, List.map_cons, List.flatten_cons, repl_form hg h1, ih]
theorem repl_rd {gs t : List Nat} (hg : Good gs) {its : List (List Nat)} (h : Rd gs its t) : Txt.replace (S t) (S (wide1 gs)) (S [123, 125]) = S (rTx gs its) := by
  have e : replL (wide1 gs) [123, 125] t = rTx gs its := by
    rcases h with ⟨rfl, rfl⟩ | ⟨hne, zs, hf, rfl⟩
    · have := repl_skip (gs := gs) (z := [123, 125]) [45] [] (by decide)
      rw [replL_nil] at this
      exact this
    · rw [repl_forms hg hf]
      unfold rTx
      rw [if_neg hne]
  refine TL.ext_tl ?_
  show (Txt.replace (S t) (S (wide1 gs)) (S [123, 125])).cps.toList = rTx gs its
  rw [replace_list (by rw [S_len]; show 1 ≤ _ + 1; omega), ← e]
end Own

namespace Own
open PySem PySem.Spec PyProof.Rows L2 SX
/-- o.replace("c" + m + "d", "z"): the sought text is made here, so it is no other object's -/
def tReplB (to tm : TE) (c d z : Str) : TE := fun σ H Q => to σ H fun v H1 => ∃ x : Str, v = .str x ∧ tm σ H1 fun g H2 => ∃ y : Str, g = .str y ∧ 0 < c.length ∧ 0 < d.length ∧ 0 < y.length ∧ c.length + y.length + d.length ≤ 1000 ∧
  (c ++ y ++ d == z) = false ∧ x.length + (x.length + 1) * z.length ≤ 16777216 ∧ Q (.str (Txt.replace x (c ++ y ++ d) z)) H2
theorem pe_replB {X : Cx} {o m : Expr} {to tm : TE} {c d z : Str} {j1 j2 j3 : Nat} {p1 p2 p3 q1 q2 apos pos : Pos} (ho : PE X o to) (hm : PE X m tm)
    (hst : starEach [.BinOp (.BinOp (.Constant (.str c) j1 p1) .Add m q1) .Add (.Constant (.str d) j2 p2) q2, .Constant (.str z) j3 p3] X.env = [(false, eval (.BinOp (.BinOp (.Constant (.str c) j1 p1) .Add m q1) .Add (.Constant (.str d) j2 p2) q2) X.env), (false, eval (.Constant (.str z) j3 p3) X.env)] := by rfl)
    (hbase : attributeBase o "replace" X.env (eval o X.env) = eval o X.env := by rfl) (hline : (apos.endLine == pos.line) = true := by rfl) :
    PE X (.Call (.Attribute o "replace" apos) [.BinOp (.BinOp (.Constant (.str c) j1 p1) .Add m q1) .Add (.Constant (.str d) j2 p2) q2, .Constant (.str z) j3 p3] [] pos) (tReplB to tm c d z) := by
  refine ⟨fun pins s σ H Q I asks => PySem.Call_method2 hbase hst hline (thn (ho.run pins s σ H _ I asks) fun v s1 ⟨v', H1, I1, r1, x, ex, asks1⟩ => ?_)⟩
  subst ex
  obtain ⟨t1, rfl⟩ := r1
  refine ⟨"str", _, PySem.F.plainAttrs_str, PySem.F.slot_str_replace, PySem.F.type_str_replace, typeIs_str _ _ _, (fun _ e => nomatch e), Calls.callWith_builtin rfl (Calls.evalArgs_plain (Calls.spliced_cons ?_))⟩
  refine wpAny_BinOp (wpAny_BinOp (Calls.Constant_str ?_))
  have I2 := I1.tok (s1.toks + 1)
  refine wpAny_mono (PySem.wpAny_toks (hm.run pins { s1 with toks := s1.toks + 1 } σ H1 _ I2 asks1)) (fun g s2 q => ?_) fun _ _ e => e.2
  obtain ⟨more, g', H2, I3, r2, y, ey, hc, hd, hy, hlen, hyz, hb, q⟩ := q
  subst ey
  obtain ⟨t2, rfl⟩ := r2
  have more : s1.toks + 1 ≤ s2.toks := more
  have n0 : (c.length == 0) = false := beq_eq_false_iff_ne.mpr (by omega)
  have n1 : (y.length == 0) = false := beq_eq_false_iff_ne.mpr (by omega)
  have n2 : (d.length == 0) = false := beq_eq_false_iff_ne.mpr (by omega)
  have n3 : ((c ++ y).length == 0) = false := beq_eq_false_iff_ne.mpr (by rw [len_app]; omega)
  refine PySem.P.add_str ?_
  rw [n0, n1]
  refine ⟨small (by rw [len_app]; omega), Calls.Constant_str (PySem.P.add_str ?_)⟩
  rw [n3, n2]
  refine ⟨small (by rw [len_app, len_app]; omega), Calls.spliced_cons (Calls.Constant_str (Calls.spliced_nil ?_))⟩
  exact PySem.SC.replace (by show s2.toks + 1 + 1 ≠ 0; omega) (by show s2.toks + 1 + 1 + 1 ≠ 0; omega) (by show s2.toks + 1 + 1 ≠ s2.toks + 1 + 1 + 1; omega) hyz hb fun t' k => ⟨.str (Txt.replace x (c ++ y ++ d) z), H2, I3.tok k, ⟨t', rfl⟩, q⟩
end Own

namespace Own
open PySem PySem.Spec PyProof.Rows L2 SX
theorem small4 {n : Nat} (h : n ≤ 4000) : n ≤ sizeLine := by rw [sizeLine_eq]; omega
theorem small4s {n : Nat} (h : n ≤ 4000) : n < sizeLine := by rw [sizeLine_eq]; omega
/-! ### promises with wider limits -/
def spBwW : Sp := fun vs H Q _ => ∃ (gs pre post x z : List Nat), vs = [tx gs, tx (pre ++ z ++ post), .int (pre.length : Int)] ∧ Good gs ∧ (pre ++ z ++ post).length ≤ 4000 ∧
  ((z = [123, 125] ∧ ∀ H', Same H H' → Q (.int 2) H') ∨ (x.Perm gs ∧ z = [123] ++ x ++ [125] ∧ ∀ H', Same H H' → Q (.int ((gs.length : Int) + 2)) H'))
def spRdW : Sp := fun vs H Q _ => ∃ (gs t : List Nat) (its : List (List Nat)), vs = [tx gs, tx t] ∧ Good gs ∧ t.length ≤ 4000 ∧ Rd gs its t ∧
  ∀ H' p, Same H H' → H p = none → H' p = some (.lst (its.map tx)) → Q (.ref p) H'
def spTiW (C : Addr) : Sp := fun vs H Q _ => ∃ (x dx : Addr) (gs t : List Nat) (its : List (List Nat)), vs = [.ref x, tx gs, tx t] ∧ H x = some (.ins C dx []) ∧ Good gs ∧ t.length ≤ 4000 ∧ Rd gs its t ∧
  ∀ H', (∀ b o, b ≠ x → H b = some o → H' b = some o) → Tm C H' x gs its → Q .non H'
def spWrW (K : PySem.W.Frag) (C : Addr) : Sp := fun vs H Q _ => ∃ (a b : Addr) (gs : List Nat) (its0 its : List (List Nat)), vs = [.ref a, .ref b] ∧ Tm C H a gs its0 ∧ Good gs ∧ Row gs its ∧ SqA K H b (its.map tx) ∧ its.length ≤ 660 ∧
  ∀ H' p, Same H H' → H p = none → Tm C H' p gs its → Q (.ref p) H'
def spPtW (C : Addr) : Sp := fun vs H Q _ => ∃ (a b : Addr) (gs : List Nat) (its inn : List (List Nat)), vs = [.ref a, .ref b] ∧ Tm C H a gs its ∧ Tm C H b gs inn ∧ Good gs ∧ Row gs its ∧ Row gs inn ∧ its.length ≤ 660 ∧ inn.length ≤ 660 ∧
  (putL gs its inn).length ≤ 660 ∧ ∀ H' p, Same H H' → H p = none → Tm C H' p gs (putL gs its inn) → Q (.ref p) H'
theorem rTx_lenW {gs : List Nat} (hg : Good gs) {its : List (List Nat)} (h : Row gs its) (hl : its.length ≤ 660) : (rTx gs its).length ≤ 4000 := by
  unfold rTx
  split
  · show 1 ≤ 4000; omega
  · have := flat_len (f := iTx gs) (m := 6) (its := its) fun x hx => Nat.le_trans iTx_len (by have := row_len hg h x hx; omega)
    omega
/-! ### one text, one template -/
theorem iTx_inj {gs x y a b : List Nat} (hg : Good gs) (hx : (∃ c, c ∈ gs ∧ x = [c]) ∨ x.Perm gs) (hy : (∃ c, c ∈ gs ∧ y = [c]) ∨ y.Perm gs) (e : iTx gs x ++ a = iTx gs y ++ b) : x = y ∧ a = b := by
  have hlo := hg.lo
  have low : ∀ c ∈ gs, c ≠ 123 ∧ c ≠ 125 := fun c hc => by have := hg.az c hc; omega
  have one : ∀ c : Nat, iTx gs [c] = [c] := fun c => by unfold iTx; rw [if_neg (by show ¬ 1 < 1; omega)]
  have big : ∀ z : List Nat, z.Perm gs → iTx gs z = if z = gs then [123, 125] else [123] ++ z ++ [125] := fun z p => by unfold iTx; rw [if_pos (by rw [p.length_eq]; omega)]
  have hd : ∀ z : List Nat, z.Perm gs → ∃ r, iTx gs z = 123 :: r := fun z p => by
    rw [big z p]
    split
    · exact ⟨[125], rfl⟩
    · exact ⟨z ++ [125], rfl⟩
  rcases hx with ⟨c, hc, rfl⟩ | px <;> rcases hy with ⟨d, hd', rfl⟩ | py
  · rw [one, one] at e
    injection e with e1 e2
    subst e1
    exact ⟨rfl, e2⟩
  · obtain ⟨r, er⟩ := hd y py
    rw [one, er] at e
    injection e with e1 _
    exact absurd e1 (low c hc).1
  · obtain ⟨r, er⟩ := hd x px
    rw [one, er] at e
    injection e with e1 _
    exact absurd e1.symm (low d hd').1
  · have nz : ∀ z : List Nat, z.Perm gs → ∀ r s : List Nat, [123, 125] ++ r ≠ [123] ++ z ++ [125] ++ s := by
      intro z p r s h
      cases z with
      | nil => have := p.length_eq; simp at this; omega
      | cons c z =>
        injection h with _ h
        injection h with h _
        exact (low c (p.mem_iff.mp (List.mem_cons_self ..))).2 h.symm
    rw [big x px, big y py] at e
    split at e <;> split at e
    · rename_i h1 h2
      injection e with _ e
      injection e with _ e
      exact ⟨h1.trans h2.symm, e⟩
    · exact absurd e (nz y py _ _)
    · exact absurd e.symm (nz x px _ _)
    · injection e with _ e
      have hl : x.length = y.length := px.length_eq.trans py.length_eq.symm
      have e' : x ++ ([125] ++ a) = y ++ ([125] ++ b) := by
        rw [← List.append_assoc, ← List.append_assoc]
        exact e
      obtain ⟨h1, h2⟩ := List.append_inj e' hl
      injection h2 with _ h2
      exact ⟨h1, h2⟩
theorem flatTx_inj {gs : List Nat} (hg : Good gs) : ∀ {its jts : List (List Nat)}, Row gs its → Row gs jts → (its.map (iTx gs)).flatten = (jts.map (iTx gs)).flatten → its = jts
  | [], [], _, _, _ => rfl
  | [], y :: s, _, hj, e => by
    obtain ⟨c, r, er, _⟩ := form_head hg (form_i hg.lo (hj y (List.mem_cons_self ..)))
    rw [List.map_cons, List.flatten_cons, er] at e
    cases e
  | x :: r, [], hi, _, e => by
    obtain ⟨c, q, er, _⟩ := form_head hg (form_i hg.lo (hi x (List.mem_cons_self ..)))
    rw [List.map_cons, List.flatten_cons, er] at e
    cases e
  | x :: r, y :: s, hi, hj, e => by
    rw [List.map_cons, List.flatten_cons, List.map_cons, List.flatten_cons] at e
    obtain ⟨h1, h2⟩ := iTx_inj hg (hi x (List.mem_cons_self ..)) (hj y (List.mem_cons_self ..)) e
    rw [h1, flatTx_inj hg (fun z hz => hi z (List.mem_cons_of_mem _ hz)) (fun z hz => hj z (List.mem_cons_of_mem _ hz)) h2]
theorem rTx_inj {gs : List Nat} (hg : Good gs) {its jts : List (List Nat)} (hi : Row gs its) (hj : Row gs jts) (e : rTx gs its = rTx gs jts) : its = jts := by
  have hd : ∀ l : List (List Nat), Row gs l → l ≠ [] → (l.map (iTx gs)).flatten ≠ [45] := by
    intro l hl ne h
    cases l with
    | nil => exact ne rfl
    | cons x r =>
      obtain ⟨c, q, er, hc⟩ := form_head hg (form_i hg.lo (hl x (List.mem_cons_self ..)))
      rw [List.map_cons, List.flatten_cons, er] at h
      injection h with h _
      exact hc h
  unfold rTx at e
  split at e <;> split at e
  · rename_i h1 h2
    rw [h1, h2]
  · rename_i h1 h2
    exact absurd e.symm (hd _ hj h2)
  · rename_i h1 h2
    exact absurd e (hd _ hi h1)
  · exact flatTx_inj hg hi hj e
/-- the items of a text, where some of these rows have it -/
noncomputable def unTx (gs : List Nat) (l : List (List (List Nat))) (t : List Nat) : List (List Nat) := by
  classical
  exact if h : ∃ its, its ∈ l ∧ rTx gs its = t then h.choose else []
theorem unTx_eq {gs : List Nat} (hg : Good gs) {l : List (List (List Nat))} (h : ∀ its ∈ l, Row gs its) {its : List (List Nat)} (hi : its ∈ l) : unTx gs l (rTx gs its) = its := by
  classical
  have hx : ∃ jts, jts ∈ l ∧ rTx gs jts = rTx gs its := ⟨its, hi, rfl⟩
  unfold unTx
  rw [dif_pos hx]
  exact rTx_inj hg (h _ hx.choose_spec.1) (h _ hi) hx.choose_spec.2
theorem unTx_map {gs : List Nat} (hg : Good gs) {l : List (List (List Nat))} (h : ∀ its ∈ l, Row gs its) {m : List (List (List Nat))} (hm : ∀ its ∈ m, its ∈ l) : (m.map (rTx gs)).map (unTx gs l) = m := by
  rw [List.map_map]
  conv => rhs; rw [← List.map_id m]
  exact List.map_congr_left fun its hi => unTx_eq hg h (hm its hi)
/-! ### chains -/
def chainL (gs : List Nat) (l : List (List (List Nat))) : List (List Nat) := l.foldl (fun wh its => putL gs its wh) [gs]
def szL (l : List (List (List Nat))) : Nat × Nat := l.foldl (fun p its => (nBl its * p.1, nLt its + nBl its * p.2)) (1, 0)
theorem chainL_snoc {gs : List Nat} {l : List (List (List Nat))} {its : List (List Nat)} : chainL gs (l ++ [its]) = putL gs its (chainL gs l) := by
  unfold chainL
  rw [List.foldl_append]
  rfl
theorem szL_snoc {l : List (List (List Nat))} {its : List (List Nat)} : szL (l ++ [its]) = (nBl its * (szL l).1, nLt its + nBl its * (szL l).2) := by
  unfold szL
  rw [List.foldl_append]
  rfl
theorem row_gs (gs : List Nat) : Row gs [gs] := fun x hx => .inr (by rw [List.mem_singleton.mp hx])
theorem row_fold {gs : List Nat} (hg : Good gs) : ∀ {l : List (List (List Nat))} {inn : List (List Nat)}, (∀ its ∈ l, Row gs its) → Row gs inn → Row gs (l.foldl (fun wh its => putL gs its wh) inn)
  | [], _, _, h => h
  | its :: r, _, hl, h => row_fold (l := r) hg (fun x hx => hl x (List.mem_cons_of_mem _ hx)) (row_put hg (hl its (List.mem_cons_self ..)) h)
theorem row_chain {gs : List Nat} (hg : Good gs) {l : List (List (List Nat))} (h : ∀ its ∈ l, Row gs its) : Row gs (chainL gs l) := row_fold hg h (row_gs gs)
theorem nBl_cons (x : List Nat) (r : List (List Nat)) : nBl (x :: r) = (if 1 < x.length then 1 else 0) + nBl r := by
  unfold nBl blL
  rw [List.filter_cons]
  by_cases h : 1 < x.length
  · rw [if_pos (decide_eq_true h), if_pos h, List.length_cons, Nat.add_comm]
  · rw [if_neg (by rw [decide_eq_false h]; decide), if_neg h, Nat.zero_add]
theorem nLt_cons (x : List Nat) (r : List (List Nat)) : nLt (x :: r) = (if 1 < x.length then 0 else 1) + nLt r := by
  unfold nLt ltL
  rw [List.filter_cons]
  by_cases h : 1 < x.length
  · rw [if_neg (by rw [decide_eq_true h]; decide), if_pos h, Nat.zero_add]
  · rw [if_pos (by rw [decide_eq_false h]; rfl), if_neg h, List.length_cons, Nat.add_comm]
theorem nBl_app (a b : List (List Nat)) : nBl (a ++ b) = nBl a + nBl b := by unfold nBl blL; rw [List.filter_append, List.length_append]
theorem nLt_app (a b : List (List Nat)) : nLt (a ++ b) = nLt a + nLt b := by unfold nLt ltL; rw [List.filter_append, List.length_append]
theorem nBl_tau {gs t : List Nat} : ∀ l : List (List Nat), nBl (l.map fun y => y.map (tau gs t)) = nBl l
  | [] => rfl
  | x :: r => by rw [List.map_cons, nBl_cons, nBl_cons, nBl_tau r, List.length_map]
theorem nLt_tau {gs t : List Nat} : ∀ l : List (List Nat), nLt (l.map fun y => y.map (tau gs t)) = nLt l
  | [] => rfl
  | x :: r => by rw [List.map_cons, nLt_cons, nLt_cons, nLt_tau r, List.length_map]
theorem putL_cons (gs x : List Nat) (r inn : List (List Nat)) : putL gs (x :: r) inn = put1 gs inn x ++ putL gs r inn := rfl
theorem nBl_put {gs : List Nat} {inn : List (List Nat)} : ∀ its : List (List Nat), nBl (putL gs its inn) = nBl its * nBl inn
  | [] => by show 0 = 0 * _; rw [Nat.zero_mul]
  | x :: r => by
    rw [putL_cons, nBl_app, nBl_put r, nBl_cons, Nat.add_mul]
    congr 1
    unfold put1
    split
    · rw [nBl_tau, Nat.one_mul]
    · rename_i h
      rw [nBl_cons, if_neg h]
      show 0 + 0 = _
      rw [Nat.zero_mul]
theorem nLt_put {gs : List Nat} {inn : List (List Nat)} : ∀ its : List (List Nat), nLt (putL gs its inn) = nLt its + nBl its * nLt inn
  | [] => by show 0 = 0 + 0 * _; rw [Nat.zero_mul]
  | x :: r => by
    rw [putL_cons, nLt_app, nLt_put r, nLt_cons, nBl_cons, Nat.add_mul]
    unfold put1
    split
    · rw [nLt_tau]; omega
    · rename_i h
      rw [nLt_cons, if_neg h]
      show 1 + 0 + _ = _
      omega
theorem nBl_gs {gs : List Nat} (hg : Good gs) : nBl [gs] = 1 ∧ nLt [gs] = 0 := by
  have := hg.lo
  constructor
  · rw [nBl_cons, if_pos (by omega)]; rfl
  · rw [nLt_cons, if_pos (by omega)]; rfl
theorem sz_chain {gs : List Nat} (hg : Good gs) (l : List (List (List Nat))) : nBl (chainL gs l) = (szL l).1 ∧ nLt (chainL gs l) = (szL l).2 := by
  have key : ∀ n, nBl (chainL gs (l.take n)) = (szL (l.take n)).1 ∧ nLt (chainL gs (l.take n)) = (szL (l.take n)).2 := by
    intro n
    induction n with
    | zero => exact nBl_gs hg
    | succ n ih =>
      rw [List.take_add_one]
      cases e : l[n]? with
      | none => rw [Option.toList_none, List.append_nil]; exact ih
      | some its =>
        rw [Option.toList_some, chainL_snoc, szL_snoc, nBl_put, nLt_put, ih.1, ih.2]
        exact ⟨rfl, rfl⟩
  have := key l.length
  rw [List.take_length] at this
  exact this
theorem chain_len {gs : List Nat} (hg : Good gs) (l : List (List (List Nat))) : (chainL gs l).length = (szL l).1 + (szL l).2 := by
  rw [← (sz_chain hg l).1, ← (sz_chain hg l).2, bl_lt]
theorem put_len' {gs : List Nat} (its inn : List (List Nat)) : (putL gs its inn).length = nLt its + nBl its * inn.length := by
  rw [← bl_lt, nBl_put, nLt_put, ← bl_lt inn, Nat.mul_add]
  omega
/-- a template without blanks: nothing is put in -/
theorem put_none {gs : List Nat} : ∀ {its : List (List Nat)} (inn : List (List Nat)), nBl its = 0 → putL gs its inn = its
  | [], _, _ => rfl
  | x :: r, inn, h => by
    rw [nBl_cons] at h
    have h1 : ¬ 1 < x.length := fun h1 => by rw [if_pos h1] at h; omega
    rw [putL_cons, put_none inn (by omega)]
    unfold put1
    rw [if_neg h1]
    rfl
/-- s: 0, or the place of one without blanks; none behind it is without blanks -/
def LastAt (l : List (List (List Nat))) (s : Nat) : Prop := (s = 0 ∨ ∃ its, l[s]? = some its ∧ nBl its = 0) ∧ s ≤ l.length ∧ ∀ j its, s < j → l[j]? = some its → nBl its ≠ 0
theorem last_nil : LastAt [] 0 := ⟨.inl rfl, Nat.le_refl _, fun j its _ h => by cases h⟩
theorem last_hit {l : List (List (List Nat))} {its : List (List Nat)} (h : nBl its = 0) : LastAt (l ++ [its]) l.length := by
  refine ⟨.inr ⟨its, by simp, h⟩, by simp, fun j jts hj hx => ?_⟩
  have := (List.getElem?_eq_some_iff.mp hx).1
  rw [List.length_append, List.length_singleton] at this
  omega
theorem last_go {l : List (List (List Nat))} {its : List (List Nat)} {s : Nat} (k : LastAt l s) (h : nBl its ≠ 0) : LastAt (l ++ [its]) s := by
  obtain ⟨k1, k2, k3⟩ := k
  refine ⟨k1.imp id fun ⟨jts, e, z⟩ => ⟨jts, (List.getElem?_append_left (List.getElem?_eq_some_iff.mp e).1).trans e, z⟩, by rw [List.length_append]; omega, fun j jts hj hx => ?_⟩
  · by_cases hl : j < l.length
    · rw [List.getElem?_append_left hl] at hx
      exact k3 j jts hj hx
    · have := (List.getElem?_eq_some_iff.mp hx).1
      rw [List.length_append, List.length_singleton] at this
      have ej : j = l.length := by omega
      subst ej
      rw [List.getElem?_append_right (Nat.le_refl _), Nat.sub_self] at hx
      cases hx
      exact h
theorem last_chain {gs : List Nat} {l : List (List (List Nat))} {s : Nat} (k : LastAt l s) : chainL gs (l.drop s) = chainL gs l := by
  rcases k.1 with rfl | ⟨its, e, z⟩
  · rfl
  · obtain ⟨hs, hx⟩ := List.getElem?_eq_some_iff.mp e
    have e1 : l.drop s = its :: l.drop (s + 1) := by rw [List.drop_eq_getElem_cons hs, hx]
    have e2 : l = l.take s ++ its :: l.drop (s + 1) := by rw [← e1, List.take_append_drop]
    conv => rhs; rw [e2]
    rw [e1]
    unfold chainL
    rw [List.foldl_append, List.foldl_cons, List.foldl_cons, put_none _ z, put_none _ z]
theorem last_len {gs : List Nat} {l : List (List (List Nat))} {s : Nat} (k : LastAt l s) {m : Nat} (hm : (chainL gs l).length ≤ m) (h1 : 1 ≤ m) : ∀ n, (chainL gs ((l.drop s).take n)).length ≤ m := by
  have up : ∀ n, 0 < n → n ≤ (l.drop s).length → (chainL gs ((l.drop s).take n)).length ≤ (chainL gs (l.drop s)).length := by
    intro n hn hl
    have key : ∀ d, n + d ≤ (l.drop s).length → (chainL gs ((l.drop s).take n)).length ≤ (chainL gs ((l.drop s).take (n + d))).length := by
      intro d
      induction d with
      | zero => intro _; exact Nat.le_refl _
      | succ d ih =>
        intro h
        refine Nat.le_trans (ih (by omega)) ?_
        have hlt : n + d < (l.drop s).length := by omega
        have ex : (l.drop s)[n + d]? = some ((l.drop s)[n + d]) := List.getElem?_eq_getElem hlt
        rw [show n + (d + 1) = (n + d) + 1 from rfl, List.take_add_one, ex, Option.toList_some, chainL_snoc, put_len']
        have : nBl ((l.drop s)[n + d]) ≠ 0 := k.2.2 (s + (n + d)) _ (by omega) (by rw [List.getElem?_drop] at ex; exact ex)
        have : 1 * (chainL gs ((l.drop s).take (n + d))).length ≤ nBl ((l.drop s)[n + d]) * (chainL gs ((l.drop s).take (n + d))).length := Nat.mul_le_mul_right _ (by omega)
        omega
    have := key ((l.drop s).length - n) (by omega)
    rw [show n + ((l.drop s).length - n) = (l.drop s).length by omega, List.take_length] at this
    exact this
  intro n
  by_cases h0 : n = 0
  · subst h0
    rw [List.take_zero]
    exact h1
  · by_cases hn : n ≤ (l.drop s).length
    · have := up n (by omega) hn
      rw [last_chain k] at this
      omega
    · rw [List.take_of_length_le (by omega), last_chain k]
      exact hm
/-- templates in a row, as they lie -/
def Tms (C : Addr) (H : Hp) (gs : List Nat) (ms : List Addr) (l : List (List (List Nat))) : Prop := ms.length = l.length ∧ ∀ (i : Nat) (m : Addr) (its : List (List Nat)), ms[i]? = some m → l[i]? = some its → Tm C H m gs its
theorem Tms.same {C : Addr} {H H' : Hp} {gs : List Nat} {ms : List Addr} {l : List (List (List Nat))} (t : Tms C H gs ms l) (s : Same H H') : Tms C H' gs ms l := ⟨t.1, fun i m its h1 h2 => (t.2 i m its h1 h2).same s⟩
theorem Tms.drop {C : Addr} {H : Hp} {gs : List Nat} {ms : List Addr} {l : List (List (List Nat))} (t : Tms C H gs ms l) (s : Nat) : Tms C H gs (ms.drop s) (l.drop s) := by
  refine ⟨by rw [List.length_drop, List.length_drop, t.1], fun i m its h1 h2 => ?_⟩
  rw [List.getElem?_drop] at h1 h2
  exact t.2 _ m its h1 h2
theorem get_ref {ms : List Addr} {i : Nat} {y : V} (h : (ms.map V.ref)[i]? = some y) : ∃ m, ms[i]? = some m ∧ y = .ref m := by
  rw [List.getElem?_map] at h
  cases e : ms[i]? with
  | none => rw [e] at h; cases h
  | some c => rw [e] at h; exact ⟨c, rfl, (Option.some.inj h).symm⟩
theorem Tms.at {C : Addr} {H : Hp} {gs : List Nat} {ms : List Addr} {l : List (List (List Nat))} (t : Tms C H gs ms l) {i : Nat} {m : Addr} (h : ms[i]? = some m) : ∃ its, l[i]? = some its ∧ Tm C H m gs its := by
  have hi := (List.getElem?_eq_some_iff.mp h).1
  rw [t.1] at hi
  exact ⟨_, List.getElem?_eq_getElem hi, t.2 i m _ h (List.getElem?_eq_getElem hi)⟩
/-! ### promises of chains -/
def spRf (K : PySem.W.Frag) (C : Addr) : Sp := fun vs H Q _ => ∃ (gs : List Nat) (a : Addr) (ts : List (List Nat)) (f : List Nat → List (List Nat)), vs = [tx gs, .ref a] ∧ Good gs ∧ SqA K H a (ts.map tx) ∧ ts.length ≤ 900 ∧
  (∀ t ∈ ts, t.length ≤ 4000 ∧ Rd gs (f t) t) ∧ ∀ H' p ms, Same H H' → H p = none → H' p = some (.lst (ms.map V.ref)) → Tms C H' gs ms (ts.map f) → Q (.ref p) H'
/-- rows that are neither long nor wide -/
def Narrow (l : List (List (List Nat))) : Prop := ∀ its ∈ l, its.length ≤ 660 ∧ ∀ x ∈ its, x.length ≤ 900
def spFs (K : PySem.W.Frag) : Sp := fun vs H Q _ => ∃ (gs : List Nat) (a : Addr) (ts : List (List Nat)) (f : List Nat → List (List Nat)), vs = [tx gs, .ref a] ∧ Good gs ∧ SqA K H a (ts.map tx) ∧ ts.length ≤ 900 ∧
  (∀ t ∈ ts, t.length ≤ 4000 ∧ Rd gs (f t) t) ∧ Narrow (ts.map f) ∧ ∀ H' p, Same H H' → H p = none → H' p = some (.tup [.int ((szL (ts.map f)).1 : Nat), .int ((szL (ts.map f)).2 : Nat)]) → Q (.ref p) H'
def spLs (K : PySem.W.Frag) (C : Addr) : Sp := fun vs H Q _ => ∃ (gs : List Nat) (a : Addr) (ms : List Addr) (l : List (List (List Nat))), vs = [.ref a] ∧ SqL K H a (ms.map V.ref) ∧ Tms C H gs ms l ∧ Narrow l ∧
  ∀ H' p s, Same H H' → H p = none → LastAt l s → H' p = some (.lst ((ms.drop s).map V.ref)) → Q (.ref p) H'
/-- Template.blank: the class, the letters, the turn left out or told -/
def spBl (C : Addr) : Sp := fun vs H Q _ => ∃ (gs t : List Nat) (v : V), vs = [.ref C, tx gs, v] ∧ Good gs ∧ t.Perm gs ∧ ((v = .non ∧ t = gs) ∨ v = tx t) ∧ ∀ H' p, Same H H' → H p = none → Tm C H' p gs [t] → Q (.ref p) H'
def spFtp (K : PySem.W.Frag) (C : Addr) : Sp := fun vs H Q _ => ∃ (gs : List Nat) (a : Addr) (n : Int) (ts : List (List Nat)) (f : List Nat → List (List Nat)), vs = [tx gs, .ref a, .int n] ∧ Good gs ∧ SqA K H a (ts.map tx) ∧ ts.length ≤ 900 ∧
  (∀ t ∈ ts, t.length ≤ 4000 ∧ Rd gs (f t) t) ∧ Narrow (ts.map f) ∧ (∀ t ∈ ts, Row gs (f t)) ∧ (((szL (ts.map f)).1 + (szL (ts.map f)).2 : Nat) : Int) ≤ n ∧ (szL (ts.map f)).1 + (szL (ts.map f)).2 ≤ 660 ∧
  ∀ H' p, Same H H' → H p = none → Tm C H' p gs (chainL gs (ts.map f)) → Q (.ref p) H'
/-! ### a class held by a name, made -/
def tMakeV (i : Nat) (C : Addr) (sp : Sp) (dvs : List V) (E : XK) (t : TA) : TE := fun σ H Q => σ[i]? = some (some (.ref C)) ∧ tMake C sp dvs E t σ H Q
theorem pe_makeV {X : Cx} {CX : CXT} {k i : Nat} {C f : Addr} {fd : FuncData} {ps : List Str} {ds : List Value} {dvs : List V} {sp : Sp} {E : XK} {x : Str} {e : Expr} {es : List Expr} {t : TA} {p pos : Pos}
    (M : Mk X.K C f) (F : FnOk X.prog X.w X.K X.mg X.base CX k f fd ps sp) (hr : Room (k + 1) X.A) (hN : X.N[i]? = some x) (hv : Vis X.env.scope x) (hb : Binds X.K fd ps ds) (hd : Vals dvs ds) (hx : Passes CX X E) (ha : PA X (e :: es) t)
    (n1 : (x == ("__debug__" : Str)) = false := by decide) (n2 : (x == ("__classdict__" : Str)) = false := by decide)
    (h1 : starEach (e :: es) X.env = (false, eval e X.env) :: starEach es X.env := by rfl) (h2 : (backTo pos (starEach es X.env)).any (·.1) = false := by rfl) :
    PE X (.Call (.Name x p) (e :: es) [] pos) (tMakeV i C sp dvs E t) := by
  constructor
  rintro pins s σ H Q I ⟨held, asks⟩
  have look := (pe_var (pos := p) (i := i) hN hv n1 n2).run pins s σ H (fun v H1 => v = .ref C ∧ H1 = H) I ⟨.ref C, held, rfl, rfl⟩
  refine wpAny_Call_Name_kw (thn look ?_)
  rintro u s1 ⟨_, _, I1, rel, rfl, rfl⟩
  cases (show u = Value.ref C from rel)
  refine PySem.W.callWith_K (h₀ := X.base) I.ok.mod.kin M.kp (thn (ha.run pos pins s1 σ _ _ I1 asks) ?_) h1 h2
  rintro us s2 ⟨vs, H2, I2, r, q⟩
  exact ⟨I2.kIn, run_make M F hr hb hd hx I2 r q⟩
/-! ### a dict comprehension over what is walked -/
theorem dc_it {J : It} {n : Nat} {G : Hp → Prop} {Y : Nat → Hp → V → Hp → Prop} {g : TG} {tt : TT} {tk tv : TE} {vs : List Nat} {σ : L2.St} {H1 : Hp} {D : Addr} {Qd : Hp → Prop} (w : Walk J n G Y) (Pv : Nat → Hp → Prop)
    (h0 : Pv 0 (upd H1 D (.dK []))) (hG : ∀ i H, i ≤ n → Pv i H → G H)
    (turn : ∀ i x H H', i < n → Pv i H → Y i H x H' → g x (wipe σ vs) H' fun σ2 H2 => wipe σ2 vs = wipe σ vs ∧ tt σ2 H2 fun b H3 =>
      if b = true then tk σ2 H3 fun y H4 => tv σ2 H4 fun z H5 => ∃ kvs k, y = kV k ∧ H5 D = some (.dK kvs) ∧ kvs.length < sizeLine ∧ Pv (i + 1) (upd H5 D (.dK (putK kvs k z))) else Pv (i + 1) H3)
    (last : ∀ H, Pv n H → Qd H) :
    ∃ W : Nat → Nat → Hp → Prop, (∃ m, W 0 m (upd H1 D (.dK []))) ∧ ∀ i m H, W i m H →
      (J.stop i H ∧ Qd H) ∨ (J.go i H ∧ ∃ Nx : Hp → Prop, (∀ H', Nx H' → ∃ m', m' < m ∧ W (i + 1) m' H') ∧ ∀ x H', J.yld i H x H' → g x (wipe σ vs) H' fun σ2 H2 => wipe σ2 vs = wipe σ vs ∧ tt σ2 H2 fun b H3 =>
        if b = true then tk σ2 H3 fun y H4 => tv σ2 H4 fun z H5 => ∃ kvs k, y = kV k ∧ H5 D = some (.dK kvs) ∧ kvs.length < sizeLine ∧ Nx (upd H5 D (.dK (putK kvs k z))) else Nx H3) := by
  refine ⟨fun i m H => i + m = n ∧ Pv i H, ⟨n, Nat.zero_add _, h0⟩, ?_⟩
  rintro i m H ⟨em, p⟩
  have le : i ≤ n := by omega
  have stands := hG i H le p
  cases m with
  | zero =>
    have : i = n := em
    subst this
    exact .inl ⟨w.stops H stands, last H p⟩
  | succ m =>
    have lt : i < n := by omega
    refine .inr ⟨w.goes i H lt stands, Pv (i + 1), fun H' p' => ⟨m, Nat.lt_succ_self _, by omega, p'⟩, ?_⟩
    intro x H' y
    exact turn i x H H' lt p (w.yields i H x H' lt stands y)
end Own

namespace Own
open PySem PySem.Spec PyProof.Rows L2 SX
/-! ### fills one after the other -/
def fillsL (gs : List Nat) (l : List (List (List Nat))) (xs : List Nat) : List Nat := l.foldl (fun t its => fillL gs its t) xs
theorem fillsL_snoc {gs : List Nat} {l : List (List (List Nat))} {its : List (List Nat)} {xs : List Nat} : fillsL gs (l ++ [its]) xs = fillL gs its (fillsL gs l xs) := by
  unfold fillsL
  rw [List.foldl_append]
  rfl
theorem map_self {gs xs : List Nat} (h : ∀ c ∈ xs, c ∈ gs) : xs.map (tau gs gs) = xs := by
  conv => rhs; rw [← List.map_id xs]
  exact List.map_congr_left fun c hc => tau_self (h c hc)
theorem put_gs {gs : List Nat} (hg : Good gs) {inn : List (List Nat)} (h : Row gs inn) : putL gs [gs] inn = inn := by
  rw [putL_cons]
  unfold put1
  have := hg.lo
  rw [if_pos (by omega)]
  show inn.map _ ++ [] = inn
  rw [List.append_nil]
  conv => rhs; rw [← List.map_id inn]
  exact List.map_congr_left fun y hy => map_self (row_mem h y hy)
theorem fill_gs {gs : List Nat} (hg : Good gs) {xs : List Nat} (h : ∀ c ∈ xs, c ∈ gs) : fillL gs [gs] xs = xs := by
  rw [← lf_eq hg (row_gs gs)]
  have := hg.lo
  show lf1 gs xs gs ++ [] = xs
  unfold lf1
  rw [if_neg (by omega), List.append_nil, map_self h]
theorem fill_chain {gs : List Nat} (hg : Good gs) {l : List (List (List Nat))} (hl : ∀ its ∈ l, Row gs its) {xs : List Nat} (hx : ∀ c ∈ xs, c ∈ gs) : fillL gs (chainL gs l) xs = fillsL gs l xs ∧ ∀ c ∈ fillsL gs l xs, c ∈ gs := by
  have key : ∀ n, fillL gs (chainL gs (l.take n)) xs = fillsL gs (l.take n) xs ∧ ∀ c ∈ fillsL gs (l.take n) xs, c ∈ gs := by
    intro n
    induction n with
    | zero => exact ⟨fill_gs hg hx, hx⟩
    | succ n ih =>
      rw [List.take_add_one]
      cases e : l[n]? with
      | none => rw [Option.toList_none, List.append_nil]; exact ih
      | some its =>
        have hi := hl its (List.mem_of_getElem? e)
        rw [Option.toList_some, chainL_snoc, fillsL_snoc, fill_put hg hi (row_chain hg fun y hy => hl y (List.mem_of_mem_take hy)) hx, ih.1]
        exact ⟨rfl, fill_mem hg hi ih.2⟩
  have := key l.length
  rw [List.take_length] at this
  exact this
theorem chain_app {gs : List Nat} (hg : Good gs) {l m : List (List (List Nat))} (hl : ∀ its ∈ l, Row gs its) (hm : ∀ its ∈ m, Row gs its) : chainL gs (l ++ m) = putL gs (chainL gs m) (chainL gs l) := by
  have key : ∀ n, chainL gs (l ++ m.take n) = putL gs (chainL gs (m.take n)) (chainL gs l) := by
    intro n
    induction n with
    | zero => rw [List.take_zero, List.append_nil]; exact (put_gs hg (row_chain hg hl)).symm
    | succ n ih =>
      rw [List.take_add_one]
      cases e : m[n]? with
      | none => rw [Option.toList_none, List.append_nil]; exact ih
      | some its =>
        rw [Option.toList_some, ← List.append_assoc, chainL_snoc, chainL_snoc, ih, put_put hg (hm its (List.mem_of_getElem? e)) (row_chain hg fun y hy => hm y (List.mem_of_mem_take hy)) (row_chain hg hl)]
  have := key m.length
  rw [List.take_length] at this
  exact this
theorem chain_pow {gs : List Nat} {b : Nat} (hb : 1 ≤ b) : ∀ {l : List (List (List Nat))}, (∀ its ∈ l, its.length ≤ b) → (chainL gs l).length ≤ b ^ l.length := by
  intro l hl
  have key : ∀ n, (chainL gs (l.take n)).length ≤ b ^ (l.take n).length := by
    intro n
    induction n with
    | zero => exact Nat.le_refl _
    | succ n ih =>
      rw [List.take_add_one]
      cases e : l[n]? with
      | none => rw [Option.toList_none, List.append_nil]; exact ih
      | some its =>
        rw [Option.toList_some, chainL_snoc, List.length_append]
        have h1 : 1 ≤ b ^ (l.take n).length := Nat.one_le_pow _ _ hb
        refine Nat.le_trans (putL_len (hl its (List.mem_of_getElem? e)) ih h1) ?_
        show _ ≤ b ^ ((l.take n).length + 1)
        rw [Nat.pow_succ, Nat.mul_comm]
        exact Nat.le_refl _
  have := key l.length
  rw [List.take_length] at this
  exact this
theorem fill_le {gs : List Nat} (hg : Good gs) {its : List (List Nat)} (h : Row gs its) {xs : List Nat} {b m : Nat} (hb : its.length ≤ b) (hx : xs.length ≤ m) (hm : 1 ≤ m) : (fillL gs its xs).length ≤ b * m := by
  rw [fill_len hg h]
  have h1 := bl_lt its
  have h2 : nBl its * xs.length ≤ nBl its * m := Nat.mul_le_mul_left _ hx
  have h3 : nLt its * 1 ≤ nLt its * m := Nat.mul_le_mul_left _ hm
  have h4 : (nBl its + nLt its) * m ≤ b * m := Nat.mul_le_mul_right _ (by omega)
  rw [Nat.add_mul] at h4
  omega
/-! ### lists of items, as they lie beside the drawer -/
def Lsts (H : Hp) (r : Addr) (qs : List Addr) (l : List (List (List Nat))) : Prop := qs.length = l.length ∧ ∀ (i : Nat) (q : Addr) (its : List (List Nat)), qs[i]? = some q → l[i]? = some its → q ≠ r ∧ H q = some (.lst (its.map tx))
theorem Lsts.same {H H' : Hp} {r : Addr} {qs : List Addr} {l : List (List (List Nat))} (h : Lsts H r qs l) (s : Same H H') : Lsts H' r qs l := ⟨h.1, fun i q its h1 h2 => ⟨(h.2 i q its h1 h2).1, s _ _ (h.2 i q its h1 h2).2⟩⟩
theorem Lsts.go {H H' : Hp} {r : Addr} {qs : List Addr} {l : List (List (List Nat))} (h : Lsts H r qs l) (g : Go r H H') : Lsts H' r qs l :=
  ⟨h.1, fun i q its h1 h2 => ⟨(h.2 i q its h1 h2).1, g.1 _ _ (h.2 i q its h1 h2).1 (h.2 i q its h1 h2).2⟩⟩
theorem Lsts.at {H : Hp} {r : Addr} {qs : List Addr} {l : List (List (List Nat))} (h : Lsts H r qs l) {i : Nat} {q : Addr} (e : qs[i]? = some q) : ∃ its, l[i]? = some its ∧ q ≠ r ∧ H q = some (.lst (its.map tx)) := by
  have hi := (List.getElem?_eq_some_iff.mp e).1
  rw [h.1] at hi
  exact ⟨_, List.getElem?_eq_getElem hi, h.2 i q _ e (List.getElem?_eq_getElem hi)⟩
theorem Lsts.put {H : Hp} {r D : Addr} {o : HO} {qs : List Addr} {l : List (List (List Nat))} (h : Lsts H r qs l) (n : ∀ q ∈ qs, q ≠ D) : Lsts (upd H D o) r qs l :=
  ⟨h.1, fun i q its h1 h2 => ⟨(h.2 i q its h1 h2).1, by rw [upd_ne (n q (List.mem_of_getElem? h1))]; exact (h.2 i q its h1 h2).2⟩⟩
theorem Lsts.snoc {H : Hp} {r q : Addr} {qs : List Addr} {l : List (List (List Nat))} {its : List (List Nat)} (h : Lsts H r qs l) (n : q ≠ r) (e : H q = some (.lst (its.map tx))) : Lsts H r (qs ++ [q]) (l ++ [its]) := by
  refine ⟨by rw [List.length_append, List.length_append, h.1]; rfl, fun i q' jts h1 h2 => ?_⟩
  by_cases hi : i < qs.length
  · rw [List.getElem?_append_left hi] at h1
    rw [List.getElem?_append_left (by rw [← h.1]; exact hi)] at h2
    exact h.2 i q' jts h1 h2
  · rw [List.getElem?_append_right (by omega)] at h1
    rw [List.getElem?_append_right (by rw [← h.1]; omega), ← h.1] at h2
    have h3 := (List.getElem?_eq_some_iff.mp h1).1
    have h4 : i - qs.length = 0 := by rw [List.length_singleton] at h3; omega
    rw [h4] at h1 h2
    cases h1
    cases h2
    exact ⟨n, e⟩
/-- what is told of drawn rows -/
structure Rows (gs : List Nat) (b n : Nat) (l : List (List (List Nat))) : Prop where
  row : ∀ its ∈ l, Row gs its
  wid : ∀ its ∈ l, its.length ≤ b
  len : l.length ≤ n
theorem Rows.sub {gs : List Nat} {b n : Nat} {l m : List (List (List Nat))} (h : Rows gs b n l) (hm : ∀ x ∈ m, x ∈ l) (hn : m.length ≤ n) : Rows gs b n m := ⟨fun x hx => h.row x (hm x hx), fun x hx => h.wid x (hm x hx), hn⟩
/-- [_law_items(rng, good, m) for k in range(..)]: D the new list -/
theorem rows_lc {K : PySem.W.Frag} {g : TG} {ta : TE} {vs : List Nat} {σ : L2.St} {H1 : Hp} {D r : Addr} {n b : Nat} {gs : List Nat} {Qd : Hp → Prop} (hg : Good gs) (R : Rng H1 r) (nD : H1 D = none) (hn : n ≤ 900)
    (turn : ∀ i H (k : VK), i < n → Rng H r → (∀ H' p its, Go r H H' → H p = none → H' p = some (.lst (its.map tx)) → Row gs its → its.length ≤ b → k (.ref p) H') → g (.int (0 + (i : Int))) (wipe σ vs) H fun σ2 H2 => wipe σ2 vs = wipe σ vs ∧ tYes σ2 H2 fun c H3 => if c = true then ta σ2 H3 k else False)
    (last : ∀ H' qs l, Go r H1 H' → H' D = some (.lst (qs.map V.ref)) → Lsts H' r qs l → (∀ q ∈ qs, H1 q = none ∧ q ≠ D) → Rows gs b n l → l.length = n → Qd H') :
    ∃ W : Nat → Nat → Hp → Prop, (∃ m, W 0 m (upd H1 D (.lst []))) ∧ ∀ i m H, W i m H →
      ((Itr 0 n).stop i H ∧ Qd H) ∨ ((Itr 0 n).go i H ∧ ∃ Nx : Hp → Prop, (∀ H', Nx H' → ∃ m', m' < m ∧ W (i + 1) m' H') ∧ ∀ x H', (Itr 0 n).yld i H x H' → g x (wipe σ vs) H' fun σ2 H2 => wipe σ2 vs = wipe σ vs ∧ tYes σ2 H2 fun b H3 =>
        if b = true then ta σ2 H3 fun y H4 => ∃ acc, H4 D = some (.lst acc) ∧ acc.length < sizeLine ∧ Nx (upd H4 D (.lst (acc ++ [y]))) else Nx H3) := by
  obtain ⟨xr, er⟩ := R.ex
  have nDr : D ≠ r := (ne_of_none er nD).symm
  refine lc_range (lo := 0) (n := n) (fun i H' => ∃ qs l, Go r H1 H' ∧ H' D = some (.lst (qs.map V.ref)) ∧ Lsts H' r qs l ∧ (∀ q ∈ qs, H1 q = none ∧ q ≠ D) ∧ Rows gs b n l ∧ l.length = i)
    ⟨[], [], (Go.refl R).same (same_new nD), upd_same, ⟨rfl, (fun i q its h => by cases h)⟩, (fun q h => nomatch h), ⟨(fun x h => nomatch h), (fun x h => nomatch h), Nat.zero_le _⟩, rfl⟩ ?_ ?_
  · rintro i H hi ⟨qs, l, g1, hD, hL, hq, hR, hl⟩
    have t := turn i H (fun y H4 => ∃ acc, H4 D = some (.lst acc) ∧ acc.length < sizeLine ∧ ∃ qs l, Go r H1 (upd H4 D (.lst (acc ++ [y]))) ∧ (upd H4 D (.lst (acc ++ [y]))) D = some (.lst (qs.map V.ref)) ∧ Lsts (upd H4 D (.lst (acc ++ [y]))) r qs l ∧ (∀ q ∈ qs, H1 q = none ∧ q ≠ D) ∧ Rows gs b n l ∧ l.length = i + 1) hi g1.rng ?_
    · exact t
    · rintro H4 p its g4 np hp hRow hlen
      have hD4 := g4.1 _ _ nDr hD
      have npD : p ≠ D := (ne_of_none hD np).symm
      obtain ⟨xr2, er2⟩ := g1.rng.ex
      have npr : p ≠ r := (ne_of_none er2 np).symm
      have n1 : H1 p = none := by
        cases e : H1 p with
        | none => rfl
        | some o =>
          rw [g1.1 _ _ npr e] at np
          cases np
      refine ⟨_, hD4, ?_, qs ++ [p], l ++ [its], (g1.trans g4).put nD, ?_, ?_, ?_, ⟨?_, ?_, ?_⟩, ?_⟩
      · rw [List.length_map, hL.1, hl]
        exact small1000 (by omega)
      · rw [upd_same, List.map_append]
        rfl
      · refine ((hL.go g4).snoc npr hp).put fun q h => ?_
        rcases List.mem_append.mp h with h | h
        · exact (hq q h).2
        · rw [List.mem_singleton.mp h]; exact npD
      · intro q h
        rcases List.mem_append.mp h with h | h
        · exact hq q h
        · rw [List.mem_singleton.mp h]; exact ⟨n1, npD⟩
      · intro x h
        rcases List.mem_append.mp h with h | h
        · exact hR.row x h
        · rw [List.mem_singleton.mp h]; exact hRow
      · intro x h
        rcases List.mem_append.mp h with h | h
        · exact hR.wid x h
        · rw [List.mem_singleton.mp h]; exact hlen
      · rw [List.length_append, hl]
        exact hi
      · rw [List.length_append, hl]
        rfl
  · rintro H ⟨qs, l, g1, hD, hL, hq, hR, hl⟩
    exact last H qs l g1 hD hL hq hR hl
/-- [_law_text(good, items) for items in some]: D the new list -/
theorem texts_lc {K : PySem.W.Frag} {g : TG} {ta : TE} {vs : List Nat} {σ : L2.St} {H1 : Hp} {D r p : Addr} {qs : List Addr} {l : List (List (List Nat))} {gs : List Nat} {Qd : Hp → Prop} (hp : H1 p = some (.lst (qs.map V.ref))) (hL : Lsts H1 r qs l) (hl : l.length ≤ 900) (nD : H1 D = none)
    (turn : ∀ q its H (k : VK), its ∈ l → H q = some (.lst (its.map tx)) → (∀ H', Same H H' → k (tx (rTx gs its)) H') → g (.ref q) (wipe σ vs) H fun σ2 H2 => wipe σ2 vs = wipe σ vs ∧ tYes σ2 H2 fun c H3 => if c = true then ta σ2 H3 k else False)
    (last : ∀ H', Same H1 H' → H' D = some (.lst ((l.map (rTx gs)).map tx)) → Qd H') :
    ∃ W : Nat → Nat → Hp → Prop, (∃ m, W 0 m (upd H1 D (.lst []))) ∧ ∀ i m H, W i m H →
      ((Itl K p).stop i H ∧ Qd H) ∨ ((Itl K p).go i H ∧ ∃ Nx : Hp → Prop, (∀ H', Nx H' → ∃ m', m' < m ∧ W (i + 1) m' H') ∧ ∀ x H', (Itl K p).yld i H x H' → g x (wipe σ vs) H' fun σ2 H2 => wipe σ2 vs = wipe σ vs ∧ tYes σ2 H2 fun b H3 =>
        if b = true then ta σ2 H3 fun y H4 => ∃ acc, H4 D = some (.lst acc) ∧ acc.length < sizeLine ∧ Nx (upd H4 D (.lst (acc ++ [y]))) else Nx H3) := by
  refine lc_list (K := K) (a := p) (xs := qs.map V.ref) (fun i H' => Same H1 H' ∧ H' D = some (.lst (((l.take i).map (rTx gs)).map tx))) ⟨same_new nD, upd_same⟩ (fun _ _ _ h => .inl (.inl (h.1 _ _ hp))) ?_ ?_
  · rintro i y H hy ⟨s1, hD⟩
    obtain ⟨q, hq, rfl⟩ := get_ref hy
    obtain ⟨its, hi, nq, eq⟩ := hL.at hq
    refine turn q its H _ (List.mem_of_getElem? hi) (s1 _ _ eq) fun H' s2 => ⟨_, s2 _ _ hD, ?_, same_put (s1.trans s2) nD, ?_⟩
    · rw [List.length_map, List.length_map, List.length_take]
      exact small1000 (by omega)
    · rw [upd_same, List.take_add_one, hi]
      simp
  · rintro H ⟨s1, hD⟩
    rw [List.length_map, hL.1, List.take_length] at hD
    exact last H s1 hD
theorem fills_le {gs : List Nat} (hg : Good gs) {b m : Nat} (hb : 1 ≤ b) (hm : 1 ≤ m) {l : List (List (List Nat))} (hl : ∀ its ∈ l, Row gs its) (hw : ∀ its ∈ l, its.length ≤ b) {xs : List Nat} (hx : xs.length ≤ m) : (fillsL gs l xs).length ≤ b ^ l.length * m := by
  have key : ∀ n, (fillsL gs (l.take n) xs).length ≤ b ^ (l.take n).length * m := by
    intro n
    induction n with
    | zero => rw [List.take_zero]; show xs.length ≤ 1 * m; omega
    | succ n ih =>
      rw [List.take_add_one]
      cases e : l[n]? with
      | none => rw [Option.toList_none, List.append_nil]; exact ih
      | some its =>
        have hi := List.mem_of_getElem? e
        rw [Option.toList_some, fillsL_snoc, List.length_append]
        have h1 : 1 * 1 ≤ b ^ (l.take n).length * m := Nat.mul_le_mul (Nat.one_le_pow _ _ hb) hm
        refine Nat.le_trans (fill_le hg (hl its hi) (hw its hi) ih h1) ?_
        show _ ≤ b ^ ((l.take n).length + 1) * m
        rw [Nat.pow_succ, Nat.mul_comm _ b, Nat.mul_assoc]
        exact Nat.le_refl _
  have := key l.length
  rw [List.take_length] at this
  exact this
theorem szs {gs : List Nat} (hg : Good gs) {b n k : Nat} (hb : 1 ≤ b) {l : List (List (List Nat))} (h : Rows gs b n l) (hk : b ^ n ≤ k) : (szL l).1 + (szL l).2 ≤ k := by
  rw [← chain_len hg]
  refine Nat.le_trans (chain_pow hb h.wid) (Nat.le_trans ?_ hk)
  exact Nat.pow_le_pow_right hb h.len
/-- fills_template of the texts of such rows -/
theorem ftp_use {K : PySem.W.Frag} {C a : Addr} {H : Hp} {gs : List Nat} {l : List (List (List Nat))} {R : Addr → Hp → Prop} (hg : Good gs) (hR : Rows gs 3 4 l) (hs : SqL K H a ((l.map (rTx gs)).map tx))
    (q : ∀ H' p, Same H H' → H p = none → Tm C H' p gs (chainL gs l) → R p H') : Good gs ∧ SqA K H a ((l.map (rTx gs)).map tx) ∧ (l.map (rTx gs)).length ≤ 900 ∧
    (∀ t ∈ l.map (rTx gs), t.length ≤ 4000 ∧ Rd gs (unTx gs l t) t) ∧ Narrow ((l.map (rTx gs)).map (unTx gs l)) ∧ (∀ t ∈ l.map (rTx gs), Row gs (unTx gs l t)) ∧
    (((szL ((l.map (rTx gs)).map (unTx gs l))).1 + (szL ((l.map (rTx gs)).map (unTx gs l))).2 : Nat) : Int) ≤ 400 ∧ (szL ((l.map (rTx gs)).map (unTx gs l))).1 + (szL ((l.map (rTx gs)).map (unTx gs l))).2 ≤ 660 ∧
    ∀ H' p, Same H H' → H p = none → Tm C H' p gs (chainL gs ((l.map (rTx gs)).map (unTx gs l))) → R p H' := by
  have un : (l.map (rTx gs)).map (unTx gs l) = l := unTx_map hg hR.row (fun x h => h)
  have back : ∀ t ∈ l.map (rTx gs), ∃ its ∈ l, t = rTx gs its ∧ unTx gs l t = its := fun t ht => by
    obtain ⟨its, hi, rfl⟩ := List.mem_map.mp ht
    exact ⟨its, hi, rfl, unTx_eq hg hR.row hi⟩
  have z := szs hg (by decide) hR (k := 81) (by decide)
  refine ⟨hg, .inl hs, by rw [List.length_map]; have := hR.len; omega, fun t ht => ?_, ?_, fun t ht => ?_, ?_, ?_, ?_⟩
  · obtain ⟨its, hi, rfl, e⟩ := back t ht
    rw [e]
    exact ⟨rTx_lenW hg (hR.row its hi) (by have := hR.wid its hi; omega), rd_r hg.lo (hR.row its hi)⟩
  · rw [un]
    exact fun its hi => ⟨by have := hR.wid its hi; omega, fun x hx => by have := row_len hg (hR.row its hi) x hx; omega⟩
  · obtain ⟨its, hi, rfl, e⟩ := back t ht
    rw [e]
    exact hR.row its hi
  · rw [un]
    omega
  · rw [un]
    omega
  · rw [un]
    exact q
theorem cutT_to {gs : List Nat} {l : List (List (List Nat))} {n : Nat} : cutV ((l.map (rTx gs)).map tx) none (some (n : Int)) = ((l.take n).map (rTx gs)).map tx := by
  unfold cutV
  rw [HT.sIx_nat]
  show (((l.map (rTx gs)).map tx).drop 0).take (min n _ - 0) = _
  rw [List.drop_zero, Nat.sub_zero, List.length_map, List.length_map]
  rw [← List.map_take, ← List.map_take]
  by_cases h : n ≤ l.length
  · rw [Nat.min_eq_left h]
  · rw [Nat.min_eq_right (by omega), List.take_length, List.take_of_length_le (by omega)]
theorem cutT_from {gs : List Nat} {l : List (List (List Nat))} {n : Nat} (h : n ≤ l.length) : cutV ((l.map (rTx gs)).map tx) (some (n : Int)) none = ((l.drop n).map (rTx gs)).map tx := by
  unfold cutV
  rw [HT.sIx_nat]
  show (((l.map (rTx gs)).map tx).drop (min n _)).take (((l.map (rTx gs)).map tx).length - min n _) = _
  rw [List.length_map, List.length_map, Nat.min_eq_left h, List.take_of_length_le (by rw [List.length_drop, List.length_map, List.length_map]; exact Nat.le_refl _), ← List.map_drop, ← List.map_drop]
end Own

namespace Own
open PySem PySem.Spec PyProof.Rows L2 SX
/-! ### text * number -/
theorem fold_app : ∀ (n : Nat) (a : List Nat) (acc : Array Nat), ((List.replicate n a.toArray).foldl (· ++ ·) acc) = acc ++ (List.replicate n a).flatten.toArray
  | 0, a, acc => by simp
  | n + 1, a, acc => by
    rw [List.replicate_succ, List.foldl_cons, fold_app n a, List.replicate_succ, List.flatten_cons]
    simp
def rRepS : R2 := fun x y H Q => ∃ (cs : List Nat) (n : Nat), x = tx cs ∧ y = .int (n : Int) ∧ cs.length ≤ 1000 ∧ n ≤ 1000 ∧ Q (tx (List.replicate n cs).flatten) H
theorem op_repS {X : Cx} : OpR X (binaryOp .Mult) rRepS := by
  rintro pins s σ H _ _ v u Q I rx ry ⟨cs, n, rfl, rfl, hc, hn, q⟩
  obtain ⟨t, rfl⟩ := rx
  obtain ⟨t', rfl⟩ := ry
  have len : (S cs).length = cs.length := S_len cs
  have small : cs.length * n ≤ 1000 * 1000 := Nat.mul_le_mul hc hn
  refine PySem.P.mul_str ?_ (fun h1 _ => ?_) (fun _ _ => ?_) ?_
  · rw [decide_eq_false (by omega), decide_eq_false (by omega)]
    rfl
  · rw [len]
    have h2 : (1000 : Int) ≤ (2 ^ 63 - 1) / (n : Int) := by
      rw [Int.le_ediv_iff_mul_le (by omega)]
      omega
    omega
  · rw [len]
    show decide (_ > _) = false
    rw [decide_eq_false]
    show ¬ _ > 16777216
    rw [Int.toNat_natCast]
    omega
  · by_cases h1 : (n : Int) < 1
    · rw [if_pos h1]
      have h0 : n = 0 := by omega
      subst h0
      exact ⟨by decide, tx [], H, I.tok _, ⟨_, rfl⟩, q⟩
    · rw [if_neg h1]
      by_cases h2 : ((n : Int) == 1 || (S cs).length == 0) = true
      · rw [if_pos h2]
        have e : (List.replicate n cs).flatten = cs := by
          rcases (Bool.or_eq_true _ _).mp h2 with h | h
          · have : n = 1 := by have := eq_of_beq h; omega
            subst this
            simp
          · have : cs = [] := by
              have := eq_of_beq h
              rw [len] at this
              exact List.length_eq_zero_iff.mp this
            subst this
            simp
        rw [e] at q
        exact ⟨tx cs, H, I, ⟨_, rfl⟩, q⟩
      · rw [if_neg h2]
        have e : (⟨(List.replicate (n : Int).toNat (S cs).cps).foldl (· ++ ·) #[]⟩ : Str) = S (List.replicate n cs).flatten := by
          show (⟨(List.replicate n cs.toArray).foldl (· ++ ·) #[]⟩ : Str) = _
          rw [fold_app]
          simp
        rw [e]
        refine ⟨?_, tx _, H, I.tok _, ⟨_, rfl⟩, q⟩
        show (S _).length ≤ _
        rw [S_len, List.length_flatten, List.map_replicate, List.sum_replicate_nat, Nat.mul_comm]
        show _ ≤ 16777216
        omega
/-! ### text[::k] -/
/-- every k-th -/
def evr (k : Nat) (xs : List Nat) : List Nat := ((List.range ((xs.length + k - 1) / k)).map (k * ·)).filterMap (xs[·]?)
theorem rng_step {n k : Nat} (hk : 0 < k) : sliceRange 0 (n : Int) (k : Int) = (List.range ((n + k - 1) / k)).map (k * ·) := by
  unfold sliceRange
  have e : (if (k : Int) > 0 then (if (0 : Int) < n then ((n : Int) - 0 + k - 1) / k else 0) else (if (0 : Int) > n then (0 - (n : Int) - k - 1) / (-k) else 0)) = (((n + k - 1) / k : Nat) : Int) := by
    rw [if_pos (by omega)]
    by_cases h : 0 < n
    · rw [if_pos (by omega), show ((n : Int) - 0 + k - 1) = ((n + k - 1 : Nat) : Int) by omega, Int.natCast_ediv]
    · have h0 : n = 0 := by omega
      subst h0
      rw [if_neg (by omega), Nat.zero_add, Nat.div_eq_of_lt (by omega)]
      rfl
  show (List.range (Int.toNat _)).map _ = _
  rw [e, Int.toNat_natCast]
  refine List.map_congr_left fun j _ => ?_
  rw [Int.zero_add, show (k : Int) * (j : Int) = ((k * j : Nat) : Int) by rw [Int.natCast_mul], Int.toNat_natCast]
theorem evr_one {xs : List Nat} : evr 1 xs = xs := by
  unfold evr
  rw [show xs.length + 1 - 1 = xs.length by omega, Nat.div_one]
  have e : (List.range xs.length).map (1 * ·) = List.range xs.length := by
    conv => rhs; rw [← List.map_id (List.range xs.length)]
    exact List.map_congr_left fun j _ => Nat.one_mul j
  rw [e]
  have := back_list xs
  rw [List.filterMap_reverse] at this
  have := congrArg List.reverse this
  rw [List.reverse_reverse, List.reverse_reverse] at this
  exact this
def tStp (te ts : TE) : TE := fun σ H Q => te σ H fun x H1 => tPart ts σ H1 fun o H2 => ∃ (z : List Nat) (k : Nat), x = tx z ∧ o = some (k : Int) ∧ 0 < k ∧ z.length ≤ 1000 ∧ Q (tx (evr k z)) H2
theorem evr_len {k : Nat} {xs : List Nat} : (evr k xs).length ≤ (xs.length + k - 1) / k := by
  unfold evr
  refine Nat.le_trans (List.length_filterMap_le _ _) ?_
  rw [List.length_map, List.length_range]
  exact Nat.le_refl _
theorem evr_mem {k : Nat} {xs : List Nat} {c : Nat} (h : c ∈ evr k xs) : c ∈ xs := by
  unfold evr at h
  obtain ⟨j, _, e⟩ := List.mem_filterMap.mp h
  exact List.mem_of_getElem? e
theorem pe_stp {X : Cx} {e st : Expr} {te ts : TE} {p3 pos : Pos} (he : PE X e te) (hs : PE X st ts)
    (hop : ∀ (u : Value) (a : Addr), subscripted (.Slice none none (some st) p3) false u (.ref a) = operate [u, .ref a] (getItem u (.ref a)) := by intro _ _; with_unfolding_all rfl) :
    PE X (.Subscript e (.Slice none none (some st) p3) pos) (tStp te ts) := by
  constructor
  intro pins s σ H Q I h
  refine Subscript_ (thn (he.run pins s σ H _ I h) ?_)
  rintro u s1 ⟨x, H1, I1, rx, g⟩
  refine wpAny_Slice ?_
  rw [evalPart_none]
  have part : PO X (some st) (tPart ts) := po_some hs
  refine wpAny_pure (wpAny_pure (thn (part.run pins s1 σ H1 _ I1 g) ?_))
  · rintro v s2 ⟨_, H2, I2, isp, z, k, rfl, rfl, hk, hz, q⟩
    cases isp with
    | int _ t =>
    obtain ⟨tk, rfl⟩ := rx
    have at_ : (s2.heap.push { cls := .type "slice", data := .fields #[.none, .none, .int (k : Int) t] }).get? s2.heap.objs.size = some { cls := .type "slice", data := .fields #[.none, .none, .int (k : Int) t] } := Heap.get?_push_size _ rfl
    refine tail_any (ops := [.str (S z) tk, .ref s2.heap.objs.size]) (typeIs_str _ (S z) tk) F.slot_str_getitem.lookup ?_ (hop _ _)
    refine wpAny_getItem_str_slice (l := none) (u := none) (st := some ((k : Int), t)) ⟨_, at_, rfl, rfl⟩ ?_ ?_
    · show ((k : Int) == 0) = false
      rw [beq_eq_false_iff_ne]
      omega
    have pick : slicePicked (S z) none none (some ((k : Int), t)) = (List.range ((z.length + k - 1) / k)).map (k * ·) := by
      show Builtin.Str.strSliceIndices none none (k : Int) (S z).length = _
      unfold Builtin.Str.strSliceIndices
      show sliceRange (if (k : Int) > 0 then 0 else _) (if (k : Int) > 0 then ((S z).length : Int) else -1) (k : Int) = _
      rw [if_pos (by omega), if_pos (by omega), S_len, rng_step hk]
    have I3 := I2.kept (t' := s2.toks) (h' := s2.heap.push { cls := .type "slice", data := .fields #[.none, .none, .int (k : Int) t] }) fun _ _ q => Heap.get?_push_of_some _ q
    unfold sliceMade
    split
    · rename_i hyes
      obtain ⟨h1, _⟩ := (Bool.and_eq_true _ _).mp hyes
      have k1 : k = 1 := by
        have h1 : ((k : Int) == 1) = true := h1
        have := eq_of_beq h1
        omega
      subst k1
      rw [evr_one] at q
      exact ⟨tx z, H2, I3, ⟨_, rfl⟩, q⟩
    · rw [pick]
      have e : (⟨(((List.range ((z.length + k - 1) / k)).map (k * ·)).filterMap ((S z).cps[·]?)).toArray⟩ : Str) = S (evr k z) := by
        unfold evr
        show (⟨_⟩ : Str) = ⟨_⟩
        congr 3
        funext j
        exact List.getElem?_toArray ..
      rw [e]
      refine ⟨?_, tx _, H2, I3.tok _, ⟨_, rfl⟩, q⟩
      show (S _).length ≤ sizeLine
      rw [S_len, sizeLine_eq]
      have h1 := evr_len (k := k) (xs := z)
      have h2 : (z.length + k - 1) / k ≤ z.length + k - 1 := Nat.div_le_self _ _
      have h3 : (evr k z).length ≤ z.length := by
        refine Nat.le_trans h1 ?_
        rw [Nat.div_le_iff_le_mul_add_pred hk]
        have : z.length * 1 ≤ k * z.length := by rw [Nat.mul_comm]; exact Nat.mul_le_mul_right _ hk
        omega
      omega
end Own

namespace Own
open PySem PySem.Spec PyProof.Rows L2 SX
/-! ### the question -/
def qL (gs : List Nat) (M : Nat) : List Nat := (gs.map fun c => List.replicate M c).flatten
theorem qL_cons (c : Nat) (r : List Nat) (M : Nat) : qL (c :: r) M = List.replicate M c ++ qL r M := rfl
theorem qL_len (M : Nat) : ∀ gs : List Nat, (qL gs M).length = M * gs.length
  | [] => rfl
  | c :: r => by
    rw [qL_cons, List.length_append, List.length_replicate, qL_len M r, List.length_cons, Nat.mul_add, Nat.mul_one, Nat.add_comm]
theorem qL_mem {M : Nat} {c : Nat} : ∀ {gs : List Nat}, c ∈ qL gs M → c ∈ gs := by
  intro gs h
  obtain ⟨l, hl, hc⟩ := List.mem_flatten.mp h
  obtain ⟨d, hd, rfl⟩ := List.mem_map.mp hl
  rw [(List.mem_replicate.mp hc).2]
  exact hd
theorem qL_map (M : Nat) (f : Nat → Nat) : ∀ gs : List Nat, (qL gs M).map f = qL (gs.map f) M
  | [] => rfl
  | c :: r => by rw [qL_cons, List.map_append, List.map_replicate, qL_map M f r, List.map_cons, qL_cons]
theorem qL_tau {gs t : List Nat} {M : Nat} (hg : Good gs) (pt : t.Perm gs) : (qL gs M).map (tau gs t) = qL t M := by rw [qL_map, map_tau hg.nd pt.length_eq]
theorem qL_get {M : Nat} (hM : 0 < M) : ∀ (t : List Nat) (j : Nat), (qL t M)[M * j]? = t[j]?
  | [], j => rfl
  | c :: r, 0 => by
    rw [qL_cons, Nat.mul_zero, List.getElem?_append_left (by rw [List.length_replicate]; exact hM), List.getElem?_replicate, if_pos hM]
    rfl
  | c :: r, j + 1 => by
    rw [qL_cons, List.getElem?_append_right (by rw [List.length_replicate, Nat.mul_add, Nat.mul_one]; omega), List.length_replicate, Nat.mul_add, Nat.mul_one, Nat.add_sub_cancel, qL_get hM r j]
    rfl
theorem range_get {α : Type} (xs : List α) : (List.range xs.length).filterMap (xs[·]?) = xs := by
  have := congrArg List.reverse (back_list xs)
  rw [List.filterMap_reverse, List.reverse_reverse, List.reverse_reverse] at this
  exact this
theorem evr_q {M : Nat} (hM : 0 < M) (t : List Nat) : evr M (qL t M) = t := by
  unfold evr
  have e : ((qL t M).length + M - 1) / M = t.length := by
    rw [qL_len]
    have h1 : M * t.length + M - 1 = (M - 1) + M * t.length := by omega
    rw [h1, Nat.add_mul_div_left _ _ hM, Nat.div_eq_of_lt (by omega), Nat.zero_add]
  rw [e, List.filterMap_map]
  conv => rhs; rw [← range_get t]
  congr 1
  funext j
  exact qL_get hM t j
/-- what stands in the place of a blank -/
theorem fill_bl {gs t : List Nat} {M : Nat} (hg : Good gs) (pt : t.Perm gs) {r : List (List Nat)} (hr : Row gs r) : fillL gs (t :: r) (qL gs M) = qL t M ++ fillL gs r (qL gs M) := by
  have hR : Row gs (t :: r) := fun x hx => by
    rcases List.mem_cons.mp hx with rfl | h
    · exact .inr pt
    · exact hr x h
  rw [← lf_eq hg hR, ← lf_eq hg hr, List.map_cons, List.flatten_cons]
  congr 1
  unfold lf1
  have := pt.length_eq
  have := hg.lo
  rw [if_neg (by omega), qL_tau hg pt]
theorem fill_lt {gs : List Nat} {c : Nat} (hg : Good gs) (hc : c ∈ gs) {r : List (List Nat)} (hr : Row gs r) (xs : List Nat) : fillL gs ([c] :: r) xs = c :: fillL gs r xs := by
  have hR : Row gs ([c] :: r) := fun x hx => by
    rcases List.mem_cons.mp hx with rfl | h
    · exact .inl ⟨c, hc, rfl⟩
    · exact hr x h
  rw [← lf_eq hg hR, ← lf_eq hg hr, List.map_cons, List.flatten_cons]
  rfl
/-- so many equal letters and then another one do not begin what has fewer fixed letters -/
theorem no_run {gs : List Nat} {M a b : Nat} (hg : Good gs) (ne : a ≠ b) : ∀ {l : List (List Nat)} {m : Nat}, Row gs l → nLt l < m → m < M → ¬ (List.replicate m a ++ [b] <+: fillL gs l (qL gs M))
  | [], m, _, h1, _, h => by
    obtain ⟨z, hz⟩ := h
    have : (List.replicate m a ++ [b] ++ z).length = 0 := by rw [hz]; rfl
    simp at this
  | x :: r, m, hR, h1, h2, h => by
    have hr : Row gs r := fun y hy => hR y (List.mem_cons_of_mem _ hy)
    have hm : 0 < m := by omega
    rcases hR x (List.mem_cons_self ..) with ⟨c, hc, rfl⟩ | pt
    · rw [fill_lt hg hc hr] at h
      rw [nLt_cons, if_neg (by show ¬ 1 < 1; omega)] at h1
      obtain ⟨m', rfl⟩ : ∃ m', m = m' + 1 := ⟨m - 1, by omega⟩
      rw [List.replicate_succ, List.cons_append, List.cons_prefix_cons] at h
      exact no_run hg ne hr (by omega) (by omega) h.2
    · rw [fill_bl hg pt hr] at h
      obtain ⟨z, hz⟩ := h
      have hl : 2 ≤ x.length := by rw [pt.length_eq]; exact hg.lo
      cases x with
      | nil => simp at hl
      | cons d x =>
        rw [qL_cons] at hz
        have g0 : (List.replicate m a ++ [b] ++ z)[0]? = some a := by
          rw [List.append_assoc, List.getElem?_append_left (by rw [List.length_replicate]; exact hm), List.getElem?_replicate, if_pos hm]
        have gm : (List.replicate m a ++ [b] ++ z)[m]? = some b := by
          rw [List.append_assoc, List.getElem?_append_right (by rw [List.length_replicate]; exact Nat.le_refl _), List.length_replicate, Nat.sub_self]
          rfl
        have rd : ∀ j, j < M → (List.replicate M d ++ qL x M ++ fillL gs r (qL gs M))[j]? = some d := fun j hj => by
          rw [List.append_assoc, List.getElem?_append_left (by rw [List.length_replicate]; exact hj), List.getElem?_replicate, if_pos hj]
        rw [hz, rd 0 (by omega)] at g0
        rw [hz, rd m h2] at gm
        exact ne ((Option.some.inj g0).symm.trans (Option.some.inj gm))
theorem q_run {gs t : List Nat} {M : Nat} (hg : Good gs) (pt : t.Perm gs) (hM : 0 < M) : ∃ a b, a ≠ b ∧ List.replicate M a ++ [b] <+: qL t M := by
  have hl : 2 ≤ t.length := by rw [pt.length_eq]; exact hg.lo
  have nd : t.Nodup := pt.symm.nodup hg.nd
  match t, hl, nd with
  | a :: b :: r, _, nd =>
    refine ⟨a, b, fun e => ?_, ?_⟩
    · subst e
      exact (List.nodup_cons.mp nd).1 (List.mem_cons_self ..)
    · obtain ⟨m, rfl⟩ : ∃ m, M = m + 1 := ⟨M - 1, by omega⟩
      refine ⟨List.replicate m b ++ qL r (m + 1), ?_⟩
      rw [qL_cons, qL_cons, List.append_assoc, List.replicate_succ (a := b)]
      simp
/-- a text read: blanks first -/
inductive Reads (gs : List Nat) (M : Nat) : List Nat → List (List Nat) → Prop
  | nil : Reads gs M [] []
  | blank {t w : List Nat} {r : List (List Nat)} : t.Perm gs → Reads gs M w r → Reads gs M (qL t M ++ w) (t :: r)
  | letter {c : Nat} {w : List Nat} {r : List (List Nat)} : c ∈ gs → (∀ t : List Nat, t.Perm gs → ¬ (qL t M <+: c :: w)) → Reads gs M w r → Reads gs M (c :: w) ([c] :: r)
theorem reads_fill {gs : List Nat} {s : Nat} (hg : Good gs) : ∀ {l : List (List Nat)}, Row gs l → nLt l ≤ s → Reads gs (s + 1) (fillL gs l (qL gs (s + 1))) l
  | [], _, _ => .nil
  | x :: r, hR, hn => by
    have hr : Row gs r := fun y hy => hR y (List.mem_cons_of_mem _ hy)
    rcases hR x (List.mem_cons_self ..) with ⟨c, hc, rfl⟩ | pt
    · rw [nLt_cons, if_neg (by show ¬ 1 < 1; omega)] at hn
      rw [fill_lt hg hc hr]
      refine .letter hc (fun t pt h => ?_) (reads_fill hg hr (by omega))
      obtain ⟨a, b, ne, run⟩ := q_run hg pt (Nat.succ_pos s)
      have h2 := run.trans h
      rw [List.replicate_succ, List.cons_append, List.cons_prefix_cons] at h2
      exact no_run hg ne hr (by omega) (Nat.lt_succ_self s) h2.2
    · have hl : 1 < x.length := by rw [pt.length_eq]; have := hg.lo; omega
      rw [nLt_cons, if_pos hl] at hn
      rw [fill_bl hg pt hr]
      exact .blank pt (reads_fill hg hr (by omega))
theorem Reads.row {gs : List Nat} {M : Nat} {w : List Nat} {r : List (List Nat)} (h : Reads gs M w r) : Row gs r := by
  induction h with
  | nil => exact fun x hx => nomatch hx
  | blank pt _ ih =>
    intro x hx
    rcases List.mem_cons.mp hx with rfl | h
    · exact .inr pt
    · exact ih x h
  | letter hc _ _ ih =>
    intro x hx
    rcases List.mem_cons.mp hx with rfl | h
    · exact .inl ⟨_, hc, rfl⟩
    · exact ih x h
theorem Reads.len {gs : List Nat} {M : Nat} (hg : Good gs) (hM : 0 < M) {w : List Nat} {r : List (List Nat)} (h : Reads gs M w r) : r.length ≤ w.length := by
  induction h with
  | nil => exact Nat.le_refl _
  | blank pt _ ih =>
    rw [List.length_cons, List.length_append, qL_len, pt.length_eq]
    have : 1 * 2 ≤ M * gs.length := Nat.mul_le_mul hM hg.lo
    omega
  | letter _ _ _ ih =>
    rw [List.length_cons, List.length_cons]
    omega
theorem Reads.fill {gs : List Nat} {M : Nat} (hg : Good gs) {w : List Nat} {r : List (List Nat)} (h : Reads gs M w r) : fillL gs r (qL gs M) = w := by
  induction h with
  | nil => rfl
  | blank pt h ih => rw [fill_bl hg pt h.row, ih]
  | letter hc _ h ih => rw [fill_lt hg hc h.row, ih]
theorem Reads.mem {gs : List Nat} {M : Nat} {w : List Nat} {r : List (List Nat)} (h : Reads gs M w r) : ∀ c ∈ w, c ∈ gs := by
  induction h with
  | nil => exact fun c hc => nomatch hc
  | blank pt _ ih =>
    intro c hc
    rcases List.mem_append.mp hc with h | h
    · exact pt.mem_iff.mp (qL_mem h)
    · exact ih c h
  | letter hc _ _ ih =>
    intro c h
    rcases List.mem_cons.mp h with rfl | h
    · exact hc
    · exact ih c h
/-! ### promises -/
def spQu : Sp := fun vs H Q _ => ∃ (gs : List Nat) (s : Nat), vs = [tx gs, .int (s : Int)] ∧ Good gs ∧ s ≤ 200 ∧ ∀ H', Same H H' → Q (tx (qL gs (s + 1))) H'
def spTA : Sp := fun vs H Q _ => ∃ (gs pre w : List Nat) (M : Nat), vs = [tx gs, tx (qL gs M), tx (pre ++ w), .int (pre.length : Int)] ∧ Good gs ∧ 0 < M ∧ M ≤ 201 ∧ (pre ++ w).length ≤ 1000 ∧ (∀ c ∈ w, c ∈ gs) ∧
  (∀ t : List Nat, t.Perm gs → qL t M <+: w → ∀ H', Same H H' → Q (tx t) H') ∧ ((∀ t : List Nat, t.Perm gs → ¬ (qL t M <+: w)) → ∀ H', Same H H' → Q .non H')
def spRT (C : Addr) : Sp := fun vs H Q _ => ∃ (gs ans : List Nat) (s : Nat) (row : List (List Nat)), vs = [tx gs, .int (s : Int), tx ans] ∧ Good gs ∧ s ≤ 200 ∧ ans.length ≤ 1000 ∧ Reads gs (s + 1) ans row ∧ row.length ≤ 160 ∧ nLt row ≤ s ∧
  ∀ H' p, Same H H' → H p = none → Tm C H' p gs row → Q (.ref p) H'
/-- [letter * (size + 1) for letter in letters]: D the new list -/
theorem q_lc {g : TG} {ta : TE} {vs : List Nat} {σ : L2.St} {H1 : Hp} {D : Addr} {gs : List Nat} {n : Nat} {Qd : Hp → Prop} (hg : Good gs) (hn : n ≤ 200) (nD : H1 D = none)
    (turn : ∀ c H (k : VK), rRepS (.str (S [c])) (.int ((n : Int) + 1)) H k → g (.str ⟨#[c]⟩) (wipe σ vs) H fun σ2 H2 => wipe σ2 vs = wipe σ vs ∧ tYes σ2 H2 fun b H3 => if b = true then ta σ2 H3 k else False)
    (last : ∀ H', Same H1 H' → H' D = some (.lst ((gs.map fun c => List.replicate (n + 1) c).map tx)) → Qd H') :
    ∃ W : Nat → Nat → Hp → Prop, (∃ m, W 0 m (upd H1 D (.lst []))) ∧ ∀ i m H, W i m H →
      ((Its (S gs)).stop i H ∧ Qd H) ∨ ((Its (S gs)).go i H ∧ ∃ Nx : Hp → Prop, (∀ H', Nx H' → ∃ m', m' < m ∧ W (i + 1) m' H') ∧ ∀ x H', (Its (S gs)).yld i H x H' → g x (wipe σ vs) H' fun σ2 H2 => wipe σ2 vs = wipe σ vs ∧ tYes σ2 H2 fun b H3 =>
        if b = true then ta σ2 H3 fun y H4 => ∃ acc, H4 D = some (.lst acc) ∧ acc.length < sizeLine ∧ Nx (upd H4 D (.lst (acc ++ [y]))) else Nx H3) := by
  have hhi := hg.hi
  refine lc_it (walk_str (z := S gs)) (fun i H' => Same H1 H' ∧ H' D = some (.lst (((gs.take i).map fun c => List.replicate (n + 1) c).map tx))) ⟨same_new nD, upd_same⟩ (fun _ _ _ _ => trivial) ?_ ?_
  · rintro i x H' H'' hi ⟨s1, hD⟩ ⟨rfl, c, hc, rfl⟩
    have hc2 : gs[i]? = some c := by rw [← List.getElem?_toArray]; exact hc
    refine turn c H'' _ ⟨[c], n + 1, rfl, by rw [Int.natCast_add]; rfl, by show 1 ≤ 1000; decide, by omega, _, hD, ?_, same_put s1 nD, ?_⟩
    · rw [List.length_map, List.length_map, List.length_take]
      exact small1000 (by omega)
    · have e : (List.replicate (n + 1) [c]).flatten = List.replicate (n + 1) c := by rw [List.flatten_replicate_singleton]
      rw [upd_same, List.take_add_one, hc2, e]
      simp
  · rintro H' ⟨s1, hD⟩
    have e : gs.take (S gs).cps.size = gs := List.take_of_length_le (Nat.le_of_eq rfl)
    rw [e] at hD
    exact last H' s1 hD
theorem q_join {K : PySem.W.Frag} {H H' : Hp} {D : Addr} {gs : List Nat} {n : Nat} {Q : VK} (s : Same H H') (hD : H' D = some (.lst ((gs.map fun c => List.replicate (n + 1) c).map tx))) (hg : Good gs) (hn : n ≤ 200)
    (q : ∀ H', Same H H' → Q (tx (qL gs (n + 1))) H') :
    ∃ a p ys, V.str (Str.ofString "") = V.str a ∧ [V.ref D] = [V.ref p] ∧ ((SqL K H' p (ys.map V.str)) ∨ (SqT K H' p (ys.map V.str))) ∧ (ys.map (·.length)).sum + ys.length * a.length ≤ 16777216 ∧ Q (.str (Txt.join a ys)) H' := by
  refine ⟨_, D, (gs.map fun c => List.replicate (n + 1) c).map S, rfl, rfl, .inl (.inl (.inl ?_)), ?_, ?_⟩
  · rw [hD]
    simp
  · rw [sum_len]
    have h1 := qL_len (n + 1) gs
    unfold qL at h1
    rw [h1]
    have h2 : (n + 1) * gs.length ≤ 201 * 4 := Nat.mul_le_mul (by omega) hg.hi
    show _ + _ * 0 ≤ _
    omega
  · rw [joinT]
    exact q _ s
end Own

namespace Own
open PySem PySem.Spec PyProof.Rows L2 SX LamX
/-! ### a lambda that lies somewhere -/
structure LF where
  params : Arguments
  body : Expr
  scope : Scope
  q : Str
  cl : List (Str × Addr)
  c : Addr
  d : Option (Addr × V)
def LF.dV (F : LF) : Value := match F.d with
  | none => .none
  | some (t, _) => .ref t
abbrev LF.fd (F : LF) (pm ctv : Value) : FuncData :=
  { name := "<lambda>", qualname := F.q, params := F.params, body := .expr F.body, scope := F.scope, globals := mainGlobals, closure := F.cl, defaults := F.dV, kwdefaults := .none, doc := .none, pyModule := pm, annotations := none, code := .ref F.c, closureTuple := ctv, builtins := builtinsNs }
def LamO (f : Addr) (F : LF) : HO := .ext fun h => ∃ (od : Option Addr) (sl : Array (Option Value)) (pm ctv : Value), h.get? f = some (⟨.type "function", od, .func (F.fd pm ctv), sl⟩ : Obj)
/-- the lambda F lies at f, its code object and its default beside it -/
structure LamAt (H : Hp) (f : Addr) (F : LF) : Prop where
  fn : H f = some (LamO f F)
  code : H F.c = some (CodeO F.c F.q)
  dflt : ∀ t v, F.d = some (t, v) → H t = some (.tup [v])
theorem LamAt.same {H H' : Hp} {f : Addr} {F : LF} (l : LamAt H f F) (s : Same H H') : LamAt H' f F := ⟨s _ _ l.fn, s _ _ l.code, fun t v e => s _ _ (l.dflt t v e)⟩
theorem LamAt.ext {H H' : Hp} {f : Addr} {F : LF} (l : LamAt H f F) (e : ExtN H H') : LamAt H' f F :=
  ⟨e _ _ l.fn (fun ps z => by unfold LamO at z; cases z), e _ _ l.code codeO_ne, fun t v h => e _ _ (l.dflt t v h) (fun ps z => by cases z)⟩
theorem LamAt.go {H H' : Hp} {f r : Addr} {F : LF} (l : LamAt H f F) (g : Go r H H') : LamAt H' f F := by
  obtain ⟨xs, er⟩ := g.rng0.ex
  exact ⟨g.1 _ _ (ne_of l.fn er fun z => by unfold LamO at z; cases z) l.fn, g.1 _ _ (ne_of l.code er fun z => by unfold CodeO at z; cases z) l.code, fun t v h => g.1 _ _ (ne_of (l.dflt t v h) er fun z => by cases z) (l.dflt t v h)⟩
/-! ### its making -/
section
variable {M : Model} {A : Around} {E : Value → Shared → Prop} {s : Shared}
theorem clo_tuple {b : Bool} {its : List Value} {jp : Value → Sem Value} {Q : Value → Shared → Prop}
    (h : ∀ ctv h', (∀ b o, s.heap.get? b = some o → h'.get? b = some o) → s.heap.objs.size ≤ h'.objs.size → wpAny M A (jp ctv) Q E { s with heap := h' }) :
    wpAny M A (if b = true then pure .none >>= jp else newTextTuple its >>= jp) Q E s := by
  cases b with
  | true => exact wpAny_bind (wpAny_pure (h .none s.heap (fun _ _ e => e) (Nat.le_refl _)))
  | false => exact wpAny_bind (wpAny_newTextTuple (h _ _ (fun b o e => Heap.get?_push_of_some _ e) (by rw [Heap.size_push]; omega)))
end
section
variable {X : Cx} {pins : List (Addr × Obj)} {σ : L2.St} {H : Hp} {s : Shared}
theorem lam_known {F : LF} {t' : Nat} {pm ctv : Value} (I : Inv X pins σ H s) :
    Inv X pins σ (upd H s.heap.objs.size (LamO s.heap.objs.size F)) { s with heap := s.heap.push { cls := .type "function", data := .func (F.fd pm ctv) }, toks := t' } := by
  have lies : (s.heap.push ({ cls := .type "function", data := .func (F.fd pm ctv) } : Obj)).get? s.heap.objs.size = some ({ cls := .type "function", data := .func (F.fd pm ctv) } : Obj) := Heap.get?_push_size _ rfl
  refine I.laid (a := s.heap.objs.size) (fun b u e => Heap.get?_push_of_some _ e) (Nat.le_refl _) ⟨⟨_, _, pm, ctv, lies⟩, ⟨_, lies⟩, ?_⟩
  rintro h1 h2 ⟨od, sl, p, t, z⟩ st
  exact ⟨od, sl, p, t, st _ z⟩
theorem lam_tail {T : List (Addr × Str)} {c P : Addr} {params : Arguments} {body : Expr} {scope : Scope} {pos : Pos} {d : Option (Addr × V)} {E : Value → Shared → Prop} {Q : Value → Shared → Prop} (I : Inv X pins σ H s) (TB : TabB X.base X.mg c P) (hcode : X.env.code = .ref c)
    (hm : (P, X.env.qual ++ "<lambda>") ∈ T) (hu : ∀ p ∈ T, p.1 = P → p.2 = X.env.qual ++ "<lambda>") (hT : Tabs T H) (hfree : ∀ y ∈ scope.names, y.2 = .free → ∃ c, X.env.cells.lookup y.1 = some c)
    (h : ∀ (f c' : Addr) (H1 : Hp) (s' : Shared), Inv X pins σ H1 s' → ExtN H H1 → Tabs T H1 → H f = none → H1 f = some (LamO f ⟨params, body, scope, X.env.qual ++ "<lambda>", cloFrom X.env.cells scope.names [], c', d⟩) →
      H1 c' = some (CodeO c' (X.env.qual ++ "<lambda>")) → Q (.ref f) s') :
    wpAny (model X.prog X.w) X.A (makeTail "<lambda>" (X.env.qual ++ "<lambda>") params (.expr body) scope X.env (LF.dV ⟨params, body, scope, X.env.qual ++ "<lambda>", [], 0, d⟩) .none none pos pos.line) Q E s := by
  obtain ⟨ps, hP, ht, ha⟩ := hT _ hm
  unfold makeTail
  rw [closure_ok hfree, I.ok.glob]
  refine wpAny_bind (wpAny_pure ?_)
  dsimp only
  refine clo_tuple fun ctv h1 k1 z1 => wpAny_bind ?_
  have I1 : Inv X pins σ H { s with heap := h1, toks := s.toks } := I.kept k1
  have tab : h1.get? P = some { cls := .none, data := .fields ps } := I1.hok P _ hP
  have hd := TB.code.keeps I1.bk
  have gl : h1.Ns mainGlobals X.mg := I1.mod.glob.keeps I1.bk
  obtain ⟨bm, ob, e1, e2, _, e3, e4, e5, e6, e7⟩ := TB.bm.keeps I1.bk
  cases hc : codeAmong pos ps.toList with
  | some cv =>
    obtain ⟨c', rfl, hco⟩ := ha pos cv hc
    refine wpAny_functionCode_hit hcode (hd.code tab ht) hc (wpAny_bind (wpAny_builtinsFor gl e1 e2 e4 e5 e6 e7 (wpAny_bind (wpAny_nsGet gl (wpAny_bind (wpAny_pure (wpAny_newObj_type ?_ (by size_fits))))))))
    have fresh : H h1.objs.size = none := I1.hok.fresh (Nat.le_refl _)
    refine h h1.objs.size c' _ _ (lam_known (F := ⟨params, body, scope, X.env.qual ++ "<lambda>", cloFrom X.env.cells scope.names [], c', d⟩) (pm := (X.mg "__name__").getD .none) (ctv := ctv) I1) (ExtN.of (same_new fresh)) (hT.ext (same_new fresh)) fresh upd_same ?_
    exact same_new fresh _ _ hco
  | none =>
    refine wpAny_functionCodeX hcode (hd.code tab ht) (hd.tab tab) hc fun c' h2 tk hx hge hlt _ hrec htb _ => ?_
    obtain ⟨c2, oc, vs, t, e, hoc, hdat, hv⟩ := hrec
    cases e
    have I2 := inv_table (q := X.env.qual ++ "<lambda>") (t' := tk) (more := #[rawInt pos.line, rawInt pos.col, .ref c']) (h' := h2) I1 hP (fun b o nb z => hx b o nb z) htb.2 hge ⟨oc, vs, t, hoc, hdat, hv⟩
    have newC : H c' = none := I1.hok.fresh hge
    have grown : ExtN H (upd (upd H P (.tbl (ps ++ #[rawInt pos.line, rawInt pos.col, .ref c']))) c' (CodeO c' (X.env.qual ++ "<lambda>"))) := by
      intro b o z no
      have nP : b ≠ P := by
        rintro rfl
        exact no ps (Option.some.inj (z.symm.trans hP))
      rw [upd_ne (ne_of_none z newC), upd_ne nP]
      exact z
    have flat : (ps ++ #[rawInt pos.line, rawInt pos.col, .ref c']).toList = ps.toList ++ [rawInt pos.line, rawInt pos.col, .ref c'] := by simp
    have tabs : Tabs T (upd (upd H P (.tbl (ps ++ #[rawInt pos.line, rawInt pos.col, .ref c']))) c' (CodeO c' (X.env.qual ++ "<lambda>"))) := by
      intro p hp
      by_cases hb : p.1 = P
      · rw [hu p hp hb, hb]
        refine ⟨_, (upd_ne (ne_of_none hP newC)).trans upd_same, flat ▸ PySem.TriplesOk_snoc _ _ _ _ ht, fun p' cv hcv => ?_⟩
        rw [flat] at hcv
        rcases among_app _ ht hcv with z | rfl
        · obtain ⟨c0, z1, z2⟩ := ha p' cv z
          exact ⟨c0, z1, grown _ _ z2 codeO_ne⟩
        · exact ⟨c', rfl, upd_same⟩
      · obtain ⟨qs, a1, a2, a3⟩ := hT p hp
        refine ⟨qs, (upd_ne (ne_of_none a1 newC)).trans ((upd_ne hb).trans a1), a2, fun p' cv hcv => ?_⟩
        obtain ⟨c0, z1, z2⟩ := a3 p' cv hcv
        exact ⟨c0, z1, grown _ _ z2 codeO_ne⟩
    have gl2 : h2.Ns mainGlobals X.mg := gl.extBut hx TB.gP
    refine wpAny_bind (wpAny_builtinsFor gl2 e1 e2 (hx _ _ e3 e4) e5 e6 e7 (wpAny_bind (wpAny_nsGet gl2 (wpAny_bind (wpAny_pure (wpAny_newObj_type ?_ (by size_fits)))))))
    have newF := I2.hok.fresh (Nat.le_refl _)
    have stay := same_new (o := LamO h2.objs.size ⟨params, body, scope, X.env.qual ++ "<lambda>", cloFrom X.env.cells scope.names [], c', d⟩) newF
    refine h h2.objs.size c' _ _ (lam_known (F := ⟨params, body, scope, X.env.qual ++ "<lambda>", cloFrom X.env.cells scope.names [], c', d⟩) (pm := (X.mg "__name__").getD .none) (ctv := ctv) I2) (grown.trans (ExtN.of stay)) (tabs.ext stay) ?_ upd_same (stay _ _ upd_same)
    exact I1.hok.fresh (Nat.le_trans hge (Nat.le_of_lt hlt))
/-- lambda: body, as a value -/
def tLamV (T : List (Addr × Str)) (mk : Addr → LF) : TE := fun _ H Q => Tabs T H ∧ ∀ f c' H1, ExtN H H1 → Tabs T H1 → H f = none → LamAt H1 f (mk c') → Q (.ref f) H1
/-- lambda x = v: body -/
def tLamD (T : List (Addr × Str)) (mk : Addr → Addr → LF) : TE := fun _ H Q => Tabs T H ∧ ∀ f c' t H1, ExtN H H1 → Tabs T H1 → H f = none → LamAt H1 f (mk c' t) → Q (.ref f) H1
abbrev lfOf (X : Cx) (params : Arguments) (body : Expr) (scope : Scope) (d : Option (Addr × V)) (c' : Addr) : LF := ⟨params, body, scope, X.env.qual ++ "<lambda>", cloFrom X.env.cells scope.names [], c', d⟩
theorem pe_lamV {T : List (Addr × Str)} {c P : Addr} {params : Arguments} {body : Expr} {scope : Scope} {pos : Pos} (TB : TabB X.base X.mg c P) (hcode : X.env.code = .ref c) (hm : (P, X.env.qual ++ "<lambda>") ∈ T) (hu : ∀ p ∈ T, p.1 = P → p.2 = X.env.qual ++ "<lambda>")
    (hfree : ∀ y ∈ scope.names, y.2 = .free → X.env.scope.names.lookup y.1 = some .cell ∨ X.env.scope.names.lookup y.1 = some .free) (hdef : defaultsOf params X.env = ([], [])) :
    PE X (.Lambda params body scope pos) (tLamV T (lfOf X params body scope none)) := by
  constructor
  rintro pins s σ H Q I ⟨hT, h⟩
  have has : ∀ y ∈ scope.names, y.2 = .free → ∃ c, X.env.cells.lookup y.1 = some c := fun y hy e => (hfree y hy e).elim (fun k => I.ok.has _ (.inl k)) fun k => I.ok.has _ (.inr k)
  refine PySem.W.kla_eval hdef ?_
  rw [makeFunction_eq]
  simp only [List.zip_nil_right, List.filterMap_nil, List.isEmpty_nil, if_true, pure_bind]
  refine lam_tail (d := none) I TB hcode hm hu hT has fun f c' H1 s' I1 e1 t1 nf hf hc => ?_
  exact ⟨.ref f, H1, I1, rfl, h f c' H1 e1 t1 nf ⟨hf, hc, fun t v z => by cases z⟩⟩
theorem pe_lamD {T : List (Addr × Str)} {c P : Addr} {params : Arguments} {body e : Expr} {scope : Scope} {pos : Pos} {v : V} (TB : TabB X.base X.mg c P) (hcode : X.env.code = .ref c) (hm : (P, X.env.qual ++ "<lambda>") ∈ T) (hu : ∀ p ∈ T, p.1 = P → p.2 = X.env.qual ++ "<lambda>")
    (hfree : ∀ y ∈ scope.names, y.2 = .free → X.env.scope.names.lookup y.1 = some .cell ∨ X.env.scope.names.lookup y.1 = some .free) (he : PE X e (tC v)) (hdef : defaultsOf params X.env = ([eval e X.env], []) := by rfl) :
    PE X (.Lambda params body scope pos) (tLamD T fun c' t => lfOf X params body scope (some (t, v)) c') := by
  constructor
  rintro pins s σ H Q I ⟨hT, h⟩
  have has : ∀ y ∈ scope.names, y.2 = .free → ∃ c, X.env.cells.lookup y.1 = some c := fun y hy e => (hfree y hy e).elim (fun k => I.ok.has _ (.inl k)) fun k => I.ok.has _ (.inr k)
  rw [arm_eval_Lambda, hdef]
  refine wpAny_bind (wpAny_bind (thn (he.run pins s σ H (fun w H' => w = v ∧ H' = H) I ⟨rfl, rfl⟩) ?_))
  rintro u s1 ⟨w, K', I1, rv, e1, e2⟩
  subst e2
  rw [e1] at rv
  refine wpAny_bind (wpAny_holding (wpAny_pure (wpAny_pure (wpAny_bind (wpAny_holding (wpAny_pure ?_))))))
  rw [makeFunction_eq]
  simp only [List.zip_nil_right, List.filterMap_nil, List.isEmpty_nil, List.isEmpty_cons, if_true, Bool.false_eq_true, if_false, pure_bind]
  refine wpAny_bind (wpAny_newTextTuple ?_)
  have fresh := I1.hok.fresh (Nat.le_refl _)
  have I2 := I1.laid (t' := s1.toks) (a := s1.heap.objs.size) (o := .tup [v]) (h' := s1.heap.push { cls := .type "tuple", data := .seq [u].toArray }) (fun b o z => Heap.get?_push_of_some _ z) (Nat.le_refl _)
    ⟨by show 1 ≤ sizeLine; decide, [u], .cons rv .nil, ⟨_, Heap.get?_push_size _ rfl, rfl, _, rfl⟩⟩
  have keep := same_new (o := .tup [v]) fresh
  refine lam_tail (d := some (s1.heap.objs.size, v)) I2 TB hcode hm hu (hT.ext keep) has fun f c' H1 s' I3 e1 t1 nf hf hc => ?_
  refine ⟨.ref f, H1, I3, rfl, h f c' _ H1 ((ExtN.of keep).trans e1) t1 (none_of keep nf) ⟨hf, hc, fun t x z => ?_⟩⟩
  cases z
  exact e1 _ _ upd_same (fun ps z => by cases z)
end
/-! ### its call -/
/-- its own names are none of the def's; it captures the def's -/
structure LamN (N : List Str) (sc scope : Scope) : Prop where
  kind : scope.kind = .function
  co : scope.isCoroutine = false
  gen : scope.isGenerator = false
  nocell : ∀ y ∈ scope.names, y.2 ≠ .cell
  away : ∀ y ∈ scope.names, y.2 = .local → y.1 ∉ N
  free : ∀ y ∈ scope.names, y.2 = .free → sc.names.lookup y.1 = some .cell ∨ sc.names.lookup y.1 = some .free
def lamNB (N : List Str) (sc scope : Scope) : Bool :=
  decide (scope.kind = .function) && (!scope.isCoroutine && (!scope.isGenerator && scope.names.all fun y => !decide (y.2 = .cell) && ((!decide (y.2 = .local) || !decide (y.1 ∈ N)) && (!decide (y.2 = .free) || (decide (sc.names.lookup y.1 = some .cell) || decide (sc.names.lookup y.1 = some .free))))))
theorem lamN_by {N : List Str} {sc scope : Scope} (h : lamNB N sc scope = true) : LamN N sc scope := by
  unfold lamNB at h
  simp only [Bool.and_eq_true, Bool.or_eq_true, Bool.not_eq_true', decide_eq_true_eq, decide_eq_false_iff_not, List.all_eq_true] at h
  obtain ⟨h1, h2, h3, h4⟩ := h
  exact ⟨h1, h2, h3, fun y hy => (h4 y hy).1, fun y hy e => (h4 y hy).2.1.resolve_left fun z => z e, fun y hy e => (h4 y hy).2.2.resolve_left fun z => z e⟩
section
variable {X : Cx} {pins : List (Addr × Obj)} {σ : L2.St} {H HZ : Hp} {s s1 : Shared}
/-- the lambda's frame, entered at s1 from below: what X told of its names it tells still -/
theorem lam_begin {A : Around} {outer : List Env} {E : XK} {scope : Scope} {f c' : Addr} {h₁ : Heap} {tk : Nat} {m : Str → Option Value} (I : Inv X pins σ H s) (L : LamN X.N X.env.scope scope) (e0 : Env0 X.prog X.w X.K X.mg X.base A outer s1 HZ) (hd : A.handled = none)
    (un : Un (frs X.stack) [] H HZ s.heap s1.heap) (hns : h₁.Ns s1.heap.objs.size m) (kp : ∀ b o, s1.heap.get? b = some o → h₁.get? b = some o) :
    Inv (lamCx X A outer s1 HZ E scope f c') [] σ HZ { s1 with heap := h₁, toks := tk } := by
  have has : ∀ y ∈ scope.names, y.2 = .free → ∃ c, X.env.cells.lookup y.1 = some c := fun y hy e => (L.free y hy e).elim (fun k => I.ok.has _ (.inl k)) fun k => I.ok.has _ (.inr k)
  have down : ∀ {y c}, (cloFrom X.env.cells scope.names []).lookup y = some c → X.env.cells.lookup y = some c := fun e => NdefX.clo_cm has e
  have live : ∀ {y c v}, X.env.cells.lookup y = some c → s.heap.IsCell c v → h₁.IsCell c v := by
    rintro y c v e ⟨o, ho, hdat⟩
    obtain ⟨sl, z⟩ := un.any ho (I.freeC y c e) (by simp)
    exact ⟨_, kp _ _ z, hdat⟩
  have none_ex : ∀ b : Addr, b ∉ (lamCx X A outer s1 HZ E scope f c').ex := fun b z => nomatch (show b ∈ ([] : List Addr) from z)
  constructor
  · constructor
    · exact e0.mod
    · exact L.kind
    · rfl
    · rfl
    · exact Nat.le_refl _
    · intro y z c e1 e2
      exact I.ok.inj y z c (down e1) (down e2)
    · rintro y (k | k)
      · exact absurd rfl (L.nocell _ (PySem.mem_of_lookup k))
      · have hy : (y, NameKind.free) ∈ scope.names := PySem.mem_of_lookup k
        obtain ⟨c, hc⟩ := has _ hy rfl
        exact ⟨c, NdefX.clo_has has hy hc⟩
    · intro y c z
      cases (show false = true from z)
    · exact fun _ => hd
    · exact Around.frames_deeper e0.frames
    · exact .inr ⟨rfl, rfl⟩
    · exact fun b z => absurd z (none_ex b)
    · exact e0.bs
    · exact e0.bsz
    · exact fun b _ _ => none_ex b
    · exact fun b z => absurd z (none_ex b)
    · exact e0.funs
    · exact e0.frf
  · rfl
  · exact e0.bare
  · exact Un.kept kp
  · refine ⟨m, hns, ?_⟩
    rintro i y v e1 e2 (k | k | k)
    · exact absurd (List.mem_of_getElem? e1) (L.away _ (PySem.mem_of_lookup k) rfl)
    · exact absurd rfl (L.nocell _ (PySem.mem_of_lookup k))
    · have hy : (y, NameKind.free) ∈ scope.names := PySem.mem_of_lookup k
      obtain ⟨c, hc⟩ := has _ hy rfl
      obtain ⟨m', _, look⟩ := I.loc
      have up := L.free _ hy rfl
      obtain ⟨u, r, z⟩ := look i y v e1 e2 (up.elim (fun k => .inr (.inl k)) fun k => .inr (.inr k))
      refine ⟨u, r, .inr ⟨.inr k, c, NdefX.clo_has has hy hc, ?_⟩⟩
      rcases z with ⟨z, _⟩ | ⟨_, c2, e3, z⟩
      · have z : X.env.scope.names.lookup y = some .local := z
        rcases up with k | k <;> (rw [k] at z; cases z)
      · cases e3.symm.trans hc
        exact live hc z
  · intro y c e
    obtain ⟨v, z⟩ := I.cell y c (down e)
    exact ⟨v, live (down e) z⟩
  · exact e0.hok.fresh (Nat.le_refl _)
  · intro y c e
    obtain ⟨v, o, ho, _⟩ := I.cell y c (down e)
    exact un.free c o ho (I.freeC y c (down e)) (by simp)
  · exact fun q z => nomatch (show q ∈ ([] : List (Addr × Obj)) from z)
  · exact e0.hok.kept kp
  · exact I.len
/-- how its call binds: nothing, or its default -/
def BindsL (F : LF) : Prop := ∀ (pm ctv : Value) (M : Model) (A : Around) (E : Value → Shared → Prop) (s : Shared) (Q : List (Str × Value) → Shared → Prop), (∀ t v, F.d = some (t, v) → ∃ u, IsTup s.heap t #[u]) →
  (∀ binds, (∀ y ∈ binds, F.scope.names.lookup y.1 = some .local) → Q binds s) → wpAny M A (bindArgs (F.fd pm ctv) ⟨[], []⟩) Q E s
theorem bindsL0 {F : LF} (h : ∀ pm ctv, bindArgs (F.fd pm ctv) ⟨[], []⟩ = pure []) : BindsL F := by
  intro pm ctv M A E s Q _ q
  rw [h]
  exact wpAny_pure (q [] fun y hy => nomatch hy)
theorem bindsL1 {F : LF} {t : Addr} {v : V} {x : Str} (hd : F.d = some (t, v)) (hx : F.scope.names.lookup x = some .local) (h : ∀ pm ctv u, ∃ k, bindArgs (F.fd pm ctv) ⟨[], []⟩ = seqItems? (.ref t) >>= k ∧ k (some #[u]) = pure [(x, u)]) : BindsL F := by
  intro pm ctv M A E s Q lies q
  obtain ⟨u, o, ho, _, n, hdat⟩ := lies t v hd
  obtain ⟨k, e1, e2⟩ := h pm ctv u
  rw [e1]
  refine wpAny_bind (wpAny_seqItems ho hdat ?_)
  rw [e2]
  exact wpAny_pure (q _ fun y hy => by rw [List.mem_singleton.mp hy]; exact hx)
theorem lam_act {CXg : CXT} {Eg : XK} {Ng : List Str} {qg : Str} {sg : Scope} {g f c' : Addr} {cdg : Value} {params : Arguments} {body : Expr} {scope : Scope} {d : Option (Addr × V)} {k i : Nat} {a : Str} {pn : List (Addr × Obj)} {xe : Value → Shared → Prop} {W : WX} {E : XK} {tb : TE} {p1 p2 : Pos}
    (I : Inv X pins σ H s) (L : LamN X.N X.env.scope scope) (hbind : BindsL (lfOf X params body scope d c'))
    (tk : Takes ((cxOf CXg X.prog X.w X.K X.mg X.base Ng qg sg g cdg X.A X.stack s H Eg).tr pn xe) W) (hW : ∀ cls d σ' H', E cls d H' → W cls d σ' H') (hr : Room (k + 1) (X.A.deeper (envOfC qg sg s.heap.objs.size g cdg)))
    (hbody : ∀ (A : Around) (outer : List Env) (s : Shared) (H : Hp), Room k (A.deeper (lamEnv X scope s.heap.objs.size f c')) → PE (lamCx X A outer s H E scope f c') body tb)
    (hN : Ng[i]? = some a) (hv : Vis sg a) (hd : (a == ("__debug__" : Str)) = false := by decide) (hcd : (a == ("__classdict__" : Str)) = false := by decide) :
    PE ((cxOf CXg X.prog X.w X.K X.mg X.base Ng qg sg g cdg X.A X.stack s H Eg).tr pn xe) (.Call (.Name a p1) [] [] p2)
      (fun σZ HZ Q => σZ[i]? = some (some (.ref f)) ∧ LamAt HZ f (lfOf X params body scope d c') ∧ tb σ HZ Q) := by
  constructor
  rintro pinsZ sZ σZ HZ Q IZ ⟨held, lam, asks⟩
  have look := (pe_var (pos := p1) (i := i) hN hv hd hcd).run pinsZ sZ σZ HZ (fun v H1 => v = .ref f ∧ H1 = HZ) IZ ⟨.ref f, held, rfl, rfl⟩
  refine wpAny_Call_Name_kw (thn look ?_)
  rintro u s1 ⟨v, H1, I1, rel, e1, e2⟩
  subst e2
  subst e1
  cases (show u = Value.ref f from rel)
  obtain ⟨⟨od, sl, pm, ctv, lies⟩, _, _⟩ := I1.hok f _ lam.fn
  obtain ⟨⟨oc, vs, t, hoc, hdc, hvc⟩, _, _⟩ := I1.hok c' _ lam.code
  refine PySem.W.callWith_F0 ⟨_, _, _, _, lies⟩ ?_
  have ran : codeAny (model X.prog X.w) (X.A.deeper (envOfC qg sg s.heap.objs.size g cdg)) (.call (.ref f) ⟨[], []⟩) (CR (L2.CX X.prog X.w) (envOfC qg sg s.heap.objs.size g cdg :: X.stack) X.prog X.w H1 s1 Q E) s1 := by
    refine PySem.W.kla_callFunE hr.depth lies rfl L.co L.gen rfl ⟨c', oc, vs, t, rfl, hoc, hdc, hvc⟩ (hbind pm ctv _ _ _ _ _ (fun t v z => ?_) fun binds hl => ?_)
    · obtain ⟨_, its, vals, tup⟩ := I1.hok t _ (lam.dflt t v z)
      cases vals with
      | cons _ r =>
        cases r with
        | nil => exact ⟨_, tup⟩
    · refine wpAny_newFunctionEnv L.nocell hl (fun h₁ hns hsb => ⟨I1.nolimit.fresh _ hsb, ?_⟩) L.kind
      show codeAny _ _ (.expr body (lamEnv X scope s1.heap.objs.size f c')) _ _
      have kp : ∀ b o, s1.heap.get? b = some o → h₁.get? b = some o := fun b o e => hsb.extBut b o (Nat.ne_of_lt (Heap.lt_size e)) (Heap.get?_push_of_some _ e)
      have J := lam_begin (E := E) (f := f) (c' := c') (tk := s1.toks + binds.length) I L I1.env0 hr.hd (show Un (frs X.stack) [] H H1 s.heap s1.heap from I1.base) hns kp
      refine PySem.W.kla_codeExpr (wpAny_mono ((hbody _ _ s1 H1 (hr.deeper _)).run [] _ _ H1 Q J asks) ?_ fun e s' out => out)
      rintro v s' ⟨w', H', J', rv, q⟩
      exact ⟨w', H', J'.os, J'.bare, J'.base, J'.hok, rv, q⟩
  refine wpAny_call (codeAny_mono ran ?_)
  have passes : Passes (L2.CX X.prog X.w) ((cxOf CXg X.prog X.w X.K X.mg X.base Ng qg sg g cdg X.A X.stack s H Eg).tr pn xe) E := passes_call tk hW
  rintro (e | fl) s' out
  · exact passes pinsZ σZ H1 s1 e s' I1 out
  · cases fl
    all_goals first | exact I1.after out | exact False.elim out
/-- x(f), f a lambda that lies: X is the def that made it, at the state of the call -/
theorem run_lam {TT : (XK → Hp → VK → Prop) → Hp → VK → Prop} {x a : Str} {g f c' : Addr} {k : Nat} {pg : Arguments} {bg : List Stmt} {sg : Scope} {dV kV doc pm cdv ct oc : Value} {an od : Option Addr} {osl : Array (Option Value)} {Ng : List Str}
    {params : Arguments} {body : Expr} {scope : Scope} {d : Option (Addr × V)} {t : XK → TE} {Q : VK} (I : Inv X pins σ H s)
    (lk : X.K.lookup g = some ⟨oc, od, .func (PySem.W.fnOf x x pg bg sg dV kV doc pm an cdv ct), osl⟩) (hcg : PySem.W.codeIn X.K cdv x = true) (hb : L2.Binds X.K (PySem.W.fnOf x x pg bg sg dV kV doc pm an cdv ct) [a] []) (Sg : FnScope Ng [a] sg) (hNg : Ng[0]? = some a) (hva : Vis sg a)
    (hG : GivesTo X Ng x sg g cdv bg a (X.env.qual ++ "<lambda>") TT) (hr : Room (k + 2) X.A) (L : LamN X.N X.env.scope scope) (hbind : BindsL (lfOf X params body scope d c'))
    (hbody : ∀ (A : Around) (outer : List Env) (s : Shared) (H : Hp) (E : XK), Room k (A.deeper (lamEnv X scope s.heap.objs.size f c')) → PE (lamCx X A outer s H E scope f c') body (t E))
    (lam : LamAt H f (lfOf X params body scope d c')) (asks : TT (fun E H' Q' => LamAt H' f (lfOf X params body scope d c') ∧ t E σ H' Q') H Q)
    (hd : (a == ("__debug__" : Str)) = false := by decide) (hcd : (a == ("__classdict__" : Str)) = false := by decide) :
    codeAny (model X.prog X.w) X.A (.call (.ref g) ⟨[.ref f], []⟩) (CR C8.CX0 X.stack X.prog X.w H s Q C8.E0) s := by
  refine run_ofS (N := Ng) (ps := [a]) (us := [.ref f]) (vs := [.ref f]) lk hcg Sg hr I.env0 (hb s [.ref f] I.kIn rfl) (.cons rfl .nil) rfl fun hr' => ?_
  have act : ∀ (W : WX) (pn : List (Addr × Obj)) (xe : Value → Shared → Prop) (E : XK) (p1 p2 : Pos), Takes ((cxOf C8.CX0 X.prog X.w X.K X.mg X.base Ng x sg g cdv X.A X.stack s H C8.E0).tr pn xe) W → (∀ cls d σ' H', E cls d H' → W cls d σ' H') →
      PE ((cxOf C8.CX0 X.prog X.w X.K X.mg X.base Ng x sg g cdv X.A X.stack s H C8.E0).tr pn xe) (.Call (.Name a p1) [] [] p2) (fun σZ HZ Q => σZ[0]? = some (some (.ref f)) ∧ HZ c' = some (CodeO c' (X.env.qual ++ "<lambda>")) ∧ (LamAt HZ f (lfOf X params body scope d c') ∧ t E σ HZ Q)) := by
    intro W pn xe E p1 p2 tk hW
    have step := lam_act (i := 0) (p1 := p1) (p2 := p2) I L hbind tk hW hr' (fun A outer s H hr2 => hbody A outer s H E hr2) hNg hva hd hcd
    exact ⟨fun pins s σ H Q J h => step.run pins s σ H Q J ⟨h.1, h.2.2⟩⟩
  obtain ⟨t', ht', hq'⟩ := hG f c' s H Q (fun E H' Q' => LamAt H' f (lfOf X params body scope d c') ∧ t E σ H' Q') act lam.code asks
  exact ⟨t', ht'.nox, hq'⟩
end
end Own

namespace Own
open PySem PySem.Spec PyProof.Rows L2 SX LamX
section
variable {X : Cx}
/-- an element of a comprehension that leans on the def's own names: back leads from the block to the def -/
def RunsIn (X : Cx) (scope : Scope) (vs : List Nat) (elt : Expr) (te : TE) : Prop :=
  ∀ (s : Shared) (H : Hp) (C : Addr) (cl : List (Str × Addr)) (fp : List Addr) (pins pins' : List (Addr × Obj)) (σ' : L2.St) (H' : Hp) (s' : Shared) (Q : VK), Inv (X.blk s H scope (compEnvC scope cl C X.env) fp) pins' σ' H' s' →
    (∀ (p : List (Addr × Obj)) (τ : L2.St) (G : Hp) (z : Shared), Inv (X.blk s H scope (compEnvC scope cl C X.env) fp) p τ G z → Inv X pins (wipe σ' vs) G z) → te σ' H' Q →
    wpAny (model X.prog X.w) X.A (eval elt (compEnvC scope cl C X.env)) (fun v z => EP (X.blk s H scope (compEnvC scope cl C X.env) fp) pins' σ' Q v z) (fun _ _ => False) s'
theorem pe_lcW {elt tg iter : Expr} {scope : Scope} {own : List (Str × Nat)} {pos : Pos} {wi : TI} {g : TG} {te : TE} (hc : X.calm = true) (hN : X.N.Nodup) (hi : PI X tg iter wi) (ok : BlkOk X.N X.env.scope scope own)
    (hg : ∀ (s : Shared) (H : Hp) (C : Addr) (cl : List (Str × Addr)) (fp : List Addr), PG (X.blk s H scope (compEnvC scope cl C X.env) fp) tg g)
    (he : RunsIn X scope (own.map (·.2)) elt te) (hs : ∀ x, foldedSetIterable iter X.env x = pure x := by intro _; rfl) :
    PE X (.ListComp elt [⟨tg, iter, [], 0⟩] scope pos) (tLc wi g tYes te (own.map (·.2))) := by
  constructor
  intro pins s σ H Q I asks
  rw [eval_ListComp]
  have has : ∀ y ∈ scope.names, y.2 = .free → ∃ c, X.env.cells.lookup y.1 = some c := fun y hy e => (ok.free y hy e).elim (fun k => I.ok.has _ (.inl k)) fun k => I.ok.has _ (.inr k)
  refine wpAny_comprehension_free (use := none) rfl hs (closure_ok has) ok.kind (fun y hy e => (ok.uniq y hy).trans (congrArg some e)) (thn (hi.run pins s σ H _ I asks) fun _ sa begun => thn begun ?_)
  rintro _ s2 ⟨it, fp, stands, J, H2, rfl, I2, T, st2, f2, q⟩
  refine wpAny_newObj_type (newEnv_comp ?_) (by show 0 ≤ sizeLine; decide)
  obtain ⟨D, eD⟩ : ∃ D, D = s2.heap.objs.size := ⟨_, rfl⟩
  rw [← eD]
  have newD : H2 D = none := I2.hok.fresh (Nat.le_of_eq eD.symm)
  obtain ⟨W, ⟨m0, w0⟩, turn⟩ := q D newD
  obtain ⟨s3, e3⟩ : ∃ s3 : Shared, s3 = { s2 with heap := s2.heap.push { cls := .type "list", data := .seq ([] : List Value).toArray } } := ⟨_, rfl⟩
  rw [← e3]
  have h3 : s3.heap = s2.heap.push { cls := .type "list", data := .seq ([] : List Value).toArray } := by rw [e3]
  have I3 : Inv X pins σ (upd H2 D (.lst [])) s3 := by
    have := I2.laid (t' := s2.toks) (a := D) (o := .lst []) (h' := s2.heap.push { cls := .type "list", data := .seq ([] : List Value).toArray }) (fun b o z => Heap.get?_push_of_some _ z) (Nat.le_of_eq eD.symm)
      ⟨Nat.zero_le _, [], 0, .nil, by rw [eD]; exact Heap.get?_push_size _ rfl⟩
    rw [e3]
    exact this
  have inside : ∀ b ∈ fp, FpOk X pins (upd H2 D (.lst [])) b ∧ b < s3.heap.objs.size := by
    intro b hb
    obtain ⟨o, z, _⟩ := T.obj _ _ st2 b hb
    have lt := Heap.lt_size z
    have ne : b ≠ D := by rw [eD]; exact Nat.ne_of_lt lt
    exact ⟨⟨(upd_ne ne).trans (f2 b hb).1, (f2 b hb).2⟩, by rw [h3, Heap.size_push]; exact Nat.lt_succ_of_lt lt⟩
  have st3 : stands 0 s3.heap := T.keep _ _ _ st2 fun b _ o z => by rw [h3]; exact Heap.get?_push_of_some _ z
  have I4 := block_start I3 ok hN inside
  have new3 : ∀ b ∈ fp, (upd H2 D (.lst [])) b = none := fun b hb => (inside b hb).1.1
  obtain ⟨H3, eH⟩ : ∃ H3, H3 = upd H2 D (.lst []) := ⟨_, rfl⟩
  rw [← eH] at I3 I4 inside new3 w0
  obtain ⟨cl, ecl⟩ : ∃ cl, cl = cellsFrom (s3.heap.objs.size + 1) scope.names (cloFrom X.env.cells scope.names []) := ⟨_, rfl⟩
  obtain ⟨s4, e4⟩ : ∃ s4 : Shared, s4 = { s3 with heap := pushCells (s3.heap.push { cls := .type "dict", data := .dict #[] }) scope.names } := ⟨_, rfl⟩
  rw [← ecl, ← e4] at I4
  have st4 : stands 0 s4.heap := T.keep _ _ _ st3 fun b _ o z => by rw [e4]; exact pushCells_keeps _ _ _ _ (Heap.get?_push_of_some _ z)
  -- from the block back to the def
  have back : ∀ (p : List (Addr × Obj)) (τ : L2.St) (G : Hp) (z : Shared), Inv (X.blk s3 H3 scope (compEnvC scope cl s3.heap.objs.size X.env) fp) p τ G z → Inv X pins σ G z := by
    intro p τ G z J'
    refine I3.call' (ch := fp) J'.os J'.base J'.hok J'.bare fun b hb => ?_
    obtain ⟨_, a1, _, a3, a4, a5⟩ := (inside b hb).1
    exact ⟨a3, a1, a4, a5⟩
  have held : ∀ {p : List (Addr × Obj)} {τ : L2.St} {G : Hp} {z : Shared}, Inv (X.blk s3 H3 scope (compEnvC scope cl s3.heap.objs.size X.env) fp) p τ G z → (∀ b ∈ fp, G b = none) → ∀ b ∈ fp, FpOk (X.blk s3 H3 scope (compEnvC scope cl s3.heap.objs.size X.env) fp) [] G b :=
    fun J' hn b hb => ⟨hn b hb, (J'.ok.exf b hb).1, J'.ok.exfs b hb, .inl hb, fun x c z => (J'.ok.exf b hb).2 x c z, fun p hp => nomatch (show p ∈ ([] : List (Addr × Obj)) from hp)⟩
  show codeAny _ _ (.compStart (.ListComp elt [⟨tg, iter, [], 0⟩] scope pos) 0 (.ref it) (.ref D) (compEnvC scope (cellsFrom (s3.heap.objs.size + 1) scope.names (cloFrom X.env.cells scope.names [])) s3.heap.objs.size X.env)) _ { s3 with heap := pushCells (s3.heap.push { cls := .type "dict", data := .dict #[] }) scope.names }
  rw [← ecl, ← e4]
  have looped : codeAny (model X.prog X.w) X.A (.compLoop (.ListComp elt [⟨tg, iter, [], 0⟩] scope pos) 0 (.ref it) (.ref D) (compEnvC scope cl s3.heap.objs.size X.env)) (compPost (model X.prog X.w) X.A X.xe none (fun v z => EP X pins σ Q v z) (.ref D) s3.heap.objs.size) s4 := by
    refine compLoop_any (fun n z => ∃ i G, Inv (X.blk s3 H3 scope (compEnvC scope cl s3.heap.objs.size X.env) fp) [] (wipe σ (own.map (·.2))) G z ∧ stands i z.heap ∧ (∀ b ∈ fp, G b = none) ∧ W i n G) ?_ m0 ⟨0, H3, I4, st4, new3, w0⟩
    rintro n s5 ⟨i, G, J5, st5, n5, w5⟩
    rcases turn i n G w5 with ⟨over, last⟩ | ⟨more, Nx, down, step⟩
    · refine thnF (T.done (X.blk s3 H3 scope (compEnvC scope cl s3.heap.objs.size X.env) fp) rfl rfl rfl hc i [] s5 _ G (fun _ _ => False) J5 (held J5 n5) st5 over) ?_
      rintro _ s6 ⟨rfl, J6⟩
      have I6 := back _ _ _ _ J6
      obtain ⟨m, ns, _⟩ := J6.loc
      have off : G s3.heap.objs.size = none := J6.free
      obtain ⟨a0, a1, a2, a3, a4, a5⟩ := I3.fpOk (Nat.le_refl _) off
      exact ⟨m, ns, fun h'' same => ⟨.ref D, G, I6.turned (t' := s6.toks) (fun b o nb z => (same.2 b nb).trans z) a0 a1 a3 a4 a5, rfl, last⟩⟩
    · refine thnF (T.item (X.blk s3 H3 scope (compEnvC scope cl s3.heap.objs.size X.env) fp) rfl rfl rfl hc i [] s5 _ G (fun _ _ => False) J5 (held J5 n5) st5 more) ?_
      rintro _ s6 ⟨u, rfl, taken⟩
      refine thnF taken ?_
      rintro _ s7 ⟨x, H7, J7, r7, y7, st7, n7⟩
      have P7 := J7.pinned (held J7 n7) (T.obj _ _ st7)
      refine thnF ((hg _ _ _ _ _).run _ s7 _ H7 x u _ P7 r7 (step x H7 y7)) ?_
      rintro _ s8 ⟨σ8, H8, J8, same8, q8⟩
      refine wpAny_tests_nil ?_
      have q8 : te σ8 H8 fun y H4 => ∃ acc, H4 D = some (.lst acc) ∧ acc.length < sizeLine ∧ Nx (upd H4 D (.lst (acc ++ [y]))) := q8
      have home : ∀ (p : List (Addr × Obj)) (τ : L2.St) (G : Hp) (z : Shared), Inv (X.blk s3 H3 scope (compEnvC scope cl s3.heap.objs.size X.env) fp) p τ G z → Inv X pins (wipe σ8 (own.map (·.2))) G z := by
        intro p τ G' z J'
        rw [same8]
        exact (back p τ G' z J').weak (wipe_length _ _) fun j v e => (wipe_some e).1
      show (if true = true then _ else _)
      rw [if_pos rfl]
      refine thnF (he s3 H3 s3.heap.objs.size cl fp pins _ σ8 H8 s8 _ J8 home q8) ?_
      rintro v9 s9 ⟨yv, H9, J9, r9, acc, hD9, hz9, nx⟩
      refine app_ok (X := X.blk s3 H3 scope (compEnvC scope cl s3.heap.objs.size X.env) fp) J9 hD9 hz9 r9 fun s10 J10 => ?_
      obtain ⟨m', lt, w'⟩ := down _ nx
      have fixed : ∀ b ∈ fp, ∀ o, s7.heap.get? b = some o → s10.heap.get? b = some o ∧ (upd H9 D (.lst (acc ++ [yv]))) b = none := by
        intro b hb o z
        have := J10.pin (b, o) (List.mem_append_right _ (List.mem_append_right _ (mem_pinsAt hb z)))
        exact ⟨this.1, this.2.1⟩
      refine ⟨m', lt, i + 1, _, (J10.unpinned (pins := [])).weak ?_ ?_, T.keep _ _ _ st7 fun b hb o z => (fixed b hb o z).1, fun b hb => ?_, w'⟩
      · rw [← same8, wipe_length]
      · intro j v e
        rw [← same8] at e
        exact (wipe_some e).1
      · obtain ⟨o, z, _⟩ := T.obj _ _ st7 b hb
        exact (fixed b hb o z).2
  exact codeAny_compStart_list looped (T.self X.A 0 _ _ _ st4 looped)
/-- a lambda of X's making, and its reading -/
def LamB (X : Cx) (k : Nat) (F : LF) (t : XK → TE) : Prop :=
  ∃ (params : Arguments) (body : Expr) (scope : Scope) (d : Option (Addr × V)) (c' : Addr), F = lfOf X params body scope d c' ∧ LamN X.N X.env.scope scope ∧ BindsL F ∧
    ∀ (f : Addr) (A : Around) (outer : List Env) (s : Shared) (H : Hp) (E : XK), Room k (A.deeper (lamEnv X scope s.heap.objs.size f c')) → PE (lamCx X A outer s H E scope f c') body (t E)
/-- x(y), y a lambda that lies -/
def tTryL (X : Cx) (k i : Nat) (TT : (XK → Hp → VK → Prop) → Hp → VK → Prop) : TE := fun σ H Q => ∃ f F t, σ[i]? = some (some (.ref f)) ∧ LamB X k F t ∧ LamAt H f F ∧ TT (fun E G Q' => LamAt G f F ∧ t E (wipe σ [i]) G Q') H Q
theorem runs_try {TT : (XK → Hp → VK → Prop) → Hp → VK → Prop} {scope : Scope} {x a y : Str} {g : Addr} {k i : Nat} {pg : Arguments} {bg : List Stmt} {sg : Scope} {dV kV doc pm cdv ct oc : Value} {an od : Option Addr} {osl : Array (Option Value)} {Ng : List Str} {p q pos : Pos}
    (hgl : ∀ (s : Shared) (H : Hp) (C : Addr) (cl : List (Str × Addr)) (fp : List Addr), Gl (X.blk s H scope (compEnvC scope cl C X.env) fp) x) (hm : X.mg x = some (.ref g)) (hk : PySem.W.keepIn X.K (.ref g) = true)
    (hv : ∀ (s : Shared) (H : Hp) (C : Addr) (cl : List (Str × Addr)) (fp : List Addr), PE (X.blk s H scope (compEnvC scope cl C X.env) fp) (.Name y q) (tVar i))
    (lk : X.K.lookup g = some ⟨oc, od, .func (PySem.W.fnOf x x pg bg sg dV kV doc pm an cdv ct), osl⟩) (hcg : PySem.W.codeIn X.K cdv x = true) (hb : L2.Binds X.K (PySem.W.fnOf x x pg bg sg dV kV doc pm an cdv ct) [a] []) (Sg : FnScope Ng [a] sg) (hNg : Ng[0]? = some a) (hva : Vis sg a)
    (hG : GivesTo X Ng x sg g cdv bg a (X.env.qual ++ "<lambda>") TT) (hr : Room (k + 2) X.A)
    (hdb : (x == ("__debug__" : Str)) = false := by decide) (hd : (a == ("__debug__" : Str)) = false := by decide) (hcd : (a == ("__classdict__" : Str)) = false := by decide) :
    RunsIn X scope [i] (.Call (.Name x p) [.Name y q] [] pos) (tTryL X k i TT) := by
  rintro s H C cl fp pins pins' σ' H' s' Q J home ⟨f, F, t, held, ⟨params, body, sc, d, c', rfl, L, bind, reads⟩, lam, asks⟩
  refine wpAny_Call_Name_kw (ld_glob J (hgl s H C cl fp) hm ?_ hdb)
  have args : PA (X.blk s H scope (compEnvC scope cl C X.env) fp) [.Name y q] (tCons (tVar i) tNil) := pa_cons (hv s H C cl fp) pa_nil
  refine PySem.W.callWith_K (h₀ := X.base) J.ok.mod.kin hk (thnF (wpAny_mono (args.run pos pins' s' σ' H' (fun vs G => vs = [.ref f] ∧ G = H') J ⟨_, held, rfl, rfl⟩) (fun _ _ z => z) fun _ _ z => z) ?_) (by rfl) (by rfl)
  rintro us s1 ⟨vs, G, J1, rel, e1, e2⟩
  subst e1
  subst e2
  cases rel with
  | cons r rest =>
    cases rest
    cases (show _ = Value.ref f from r)
    refine ⟨J1.kIn, wpAny_call (codeAny_mono (run_lam (home _ _ _ _ J1) lk hcg hb Sg hNg hva hG hr L bind (fun A outer s H E hr2 => reads f A outer s H E hr2) lam asks hd hcd) ?_)⟩
    rintro (e | fl) z out
    · exact (show False from out).elim
    · cases fl
      all_goals first | exact J1.after out | exact False.elim out
end
end Own

namespace Own
open PySem PySem.Spec PyProof.Rows L2 SX LamX
/-- C.m(k = v, ..), m a classmethod -/
def tCMethK (C : Addr) (sp : Sp) (gV : List V → List V → List V) (E : XK) (ta : TE) (tk : TA) : TE := fun σ H Q => ta σ H fun x H1 => x = .ref C ∧ tk σ H1 fun zs H2 => sp (gV [.ref C] zs) H2 Q E
theorem pe_cmk {X : Cx} {CX : CXT} {k : Nat} {C p g : Addr} {mc : Value} {fd : FuncData} {ps ks : List Str} {sp : Sp} {E : XK} {o : Expr} {m : Str} {pos apos : Pos} {kws : List Keyword} {ta : TE} {tk : TA} {pl : Sem Bool} {gg : List Value → List Value → List Value} {gV : List V → List V → List V}
    (he : PE X o ta) (r : ClX.CRead X.K C mc) (c : ClX.CMet X.K C mc m p g) (F : FnOk X.prog X.w X.K X.mg X.base CX k g fd ps sp) (hr : Room k X.A) (hb : KBinds X.K fd ps ks gg gV) (hx : Passes CX X E) (hkw : PK X kws tk)
    (hall : (backToKw pos (keywordEach kws X.env)).all (·.1.isSome) = true := by rfl)
    (hks : (backToKw pos (keywordEach kws X.env)).filterMap (·.1) = ks := by rfl)
    (hpl : ((backTo pos (starEach [] X.env)).any (·.1) || (backToKw pos (keywordEach kws X.env)).any (·.1.isNone)) = false := by rfl)
    (ht : eval (.Call (.Attribute o m apos) [] kws pos) X.env = (do
      let ov ← eval o X.env
      standAt apos.atName
      let (f, first) ← holding [ov] (getMethod ov m pl)
      callWith pos f first (backTo pos (starEach [] X.env)) (backToKw pos (keywordEach kws X.env))) := by rfl) :
    PE X (.Call (.Attribute o m apos) [] kws pos) (tCMethK C sp gV E ta tk) := by
  constructor
  intro pins s σ H Q I asks
  refine PySem.W.methodCall_KW (pl := pl) (thn (he.run pins s σ H _ I asks) ?_) ht
  rintro u s1 ⟨x, H1, I1, rx, rfl, q⟩
  cases (show u = Value.ref C from rx)
  refine ClX.getmethcm_ok I1 r c fun s2 I2 => PySem.W.callWith_of hpl (PySem.W.keeps_M (self := .ref C) c.fi) (evalArgs_kw2_nil hall (thn (hkw.run pos _ s2 σ H1 _ I2 q) ?_))
  rintro ws s3 ⟨zs, H2, I3, rz, q2⟩
  refine ⟨⟨ClX.pin_at I3, I3.kIn⟩, ?_⟩
  rw [hks]
  have rel := hb.rel (vs := [.ref C]) (us := [.ref C]) (.cons rfl .nil) rz
  have len : (gg [.ref C] ws).length = ps.length := by rw [← rel.length]; exact F.len _ _ _ _ q2
  have ran : wpAny (model X.prog X.w) X.A (call (.ref s1.heap.objs.size) [] (ks.zip ws)) (EP X ((s1.heap.objs.size, PySem.W.methodObj (.ref g) (.ref C)) :: pins) σ Q) X.xe s3 := by
    refine wpAny_call (PySem.W.method_call (ClX.pin_at I3) (codeAny_mono (F.run X.A X.stack s3 H2 ⟨[.ref C], ks.zip ws⟩ (gg [.ref C] ws) (gV [.ref C] zs) Q E hr I3.env0 (hb.to s3 [.ref C] ws I3.kIn len) rel q2) ?_))
    rintro (e | fl) z out
    · exact hx _ σ H2 s3 e z I3 out
    · cases fl
      all_goals first | exact I3.after out | exact False.elim out
  exact thn ran fun _ _ y => ClX.unpinE y
/-! ### templates of a text -/
def oneL (xs : List Nat) : List (List Nat) := xs.map fun c => [c]
theorem row_one {gs xs : List Nat} (h : ∀ c ∈ xs, c ∈ gs) : Row gs (oneL xs) := fun x hx => by
  obtain ⟨c, hc, rfl⟩ := List.mem_map.mp hx
  exact .inl ⟨c, h c hc, rfl⟩
theorem fill_one {gs xs : List Nat} (hg : Good gs) (h : ∀ c ∈ xs, c ∈ gs) (ys : List Nat) : fillL gs (oneL xs) ys = xs := by
  rw [← lf_eq hg (row_one h)]
  clear h
  induction xs with
  | nil => rfl
  | cons c r ih =>
    show lf1 gs ys [c] ++ ((oneL r).map (lf1 gs ys)).flatten = c :: r
    rw [ih]
    unfold lf1
    rw [if_pos (show [c].length = 1 from rfl)]
    rfl
def spRtS : Sp := fun vs H Q _ => ∃ gs xs : List Nat, vs = [tx gs, tx xs] ∧ gs.length ≤ 1000 ∧ xs.length ≤ 900 ∧ ∀ H', Same H H' → Q (tx (rTx gs (oneL xs))) H'
def spFx (C : Addr) : Sp := fun vs H Q _ => ∃ gs xs : List Nat, vs = [.ref C, tx gs, tx xs] ∧ Good gs ∧ (∀ c ∈ xs, c ∈ gs) ∧ xs.length ≤ 160 ∧ ∀ H' p, Same H H' → H p = none → Tm C H' p gs (oneL xs) → Q (.ref p) H'
def spFxX (C CI CT : Addr) : Sp := fun vs H _ E => ∃ cs xs : List Nat, vs = [.ref C, tx cs, tx xs] ∧ cs.length ≤ 1000 ∧
  ((¬ Valid cs ∧ ∀ H' d, Same H H' → H' d = some (.xd [("code", .str "InvalidLetters")]) → E (.ref CI) (some d) H') ∨
   (Good cs ∧ ∃ i, Bad cs xs i ∧ ∀ H' d, Same H H' → H' d = some (.xd [("position", .int (i : Nat)), ("code", .str "UnknownLetter")]) → E (.ref CT) (some d) H'))
def spTiI (CI : Addr) : Sp := fun vs H _ E => ∃ (x : V) (cs : List Nat) (t : V), vs = [x, tx cs, t] ∧ ¬ Valid cs ∧ cs.length ≤ 1000 ∧ ∀ H' d, Same H H' → H' d = some (.xd [("code", .str "InvalidLetters")]) → E (.ref CI) (some d) H'
def spBlX (C CI : Addr) : Sp := fun vs H _ E => ∃ cs : List Nat, vs = [.ref C, tx cs, .non] ∧ ¬ Valid cs ∧ cs.length ≤ 900 ∧ ∀ H' d, Same H H' → H' d = some (.xd [("code", .str "InvalidLetters")]) → E (.ref CI) (some d) H'
def cat3r {α : Type} : List α → List α → List α
  | [a], [b, c] => [a, c, b]
  | _, _ => []
theorem cat3r_rel {vs : List V} {us : List Value} {zs : List V} {ws : List Value} (r : Vals vs us) (z : Vals zs ws) : Vals (cat3r vs zs) (cat3r us ws) := by
  match vs, us, r with
  | [], _, .nil => exact .nil
  | _ :: _ :: _, _, .cons _ (.cons _ _) => exact .nil
  | [_], _, .cons a .nil =>
    match zs, ws, z with
    | [], _, .nil => exact .nil
    | [_], _, .cons _ .nil => exact .nil
    | [_, _], _, .cons b (.cons c .nil) => exact .cons a (.cons c (.cons b .nil))
    | _ :: _ :: _ :: _, _, .cons _ (.cons _ (.cons _ _)) => exact .nil
theorem lamB_of {X : Cx} {k : Nat} {H : Hp} {f c' : Addr} {params : Arguments} {body : Expr} {scope : Scope} {d : Option (Addr × V)} {t : XK → TE} (la : LamAt H f (lfOf X params body scope d c')) (L : LamN X.N X.env.scope scope) (b : BindsL (lfOf X params body scope d c'))
    (reads : ∀ (f : Addr) (A : Around) (outer : List Env) (s : Shared) (H : Hp) (E : XK), Room k (A.deeper (lamEnv X scope s.heap.objs.size f c')) → PE (lamCx X A outer s H E scope f c') body (t E)) : LamB X k (lfOf X params body scope d c') t :=
  ⟨params, body, scope, d, c', rfl, L, b, reads⟩
end Own

namespace Own
open PySem PySem.Spec PyProof.Rows L2 SX
/-! ### the fields of errors, for all codes -/
def fldA : List V := [.str (Str.ofString "UnknownLetter"), .str (Str.ofString "ParseError")]
def fldB : List V := [.str (Str.ofString "TooLong"), .str (Str.ofString "TooMany"), .str (Str.ofString "LimitReached")]
def fldC : List V := [.str (Str.ofString "InvalidName"), .str (Str.ofString "WrongKind"), .str (Str.ofString "CircularName"), .str (Str.ofString "NameInUse"), .str (Str.ofString "DuplicateName"), .str (Str.ofString "UnknownName")]
def fldD : List V := [.str (Str.ofString "InvalidGame"), .str (Str.ofString "InvalidCommand")]
/-- the name of the field that an error of this code has -/
def fldOf (code : Str) : Option Str :=
  if inV (.str code) fldA = true then some "position" else if inV (.str code) fldB = true then some "limit" else if inV (.str code) fldC = true then some "name"
  else if inV (.str code) fldD = true then some "index" else if decide (V.str code = V.str (Str.ofString "InvalidMachine")) = true then some "room" else none
/-- an error as it lies, of any code -/
def ErrN (K : PySem.W.Frag) (cls : Value) (d : Option Addr) (H : Hp) (code : Str) (v : V) : Prop :=
  ∃ (C dd : Addr) (fs : List (Str × V)), cls = .ref C ∧ d = some dd ∧ H dd = some (.xd fs) ∧ XfC K C ∧ PySem.W.findIn K (.ref C) "code" = some none ∧ fs.lookup ("code" : Str) = some (V.str code) ∧
    (∀ x, fldOf code = some x → PySem.W.findIn K (.ref C) x = some none ∧ fs.lookup x = some v) ∧ (fldOf code = none → v = .non)
def spFldN (K : PySem.W.Frag) : SpX := fun a cls d vs H Q _ => ∃ code v, vs = [.ref a] ∧ ErrN K cls d H code v ∧ ∀ H', Same H H' → Q v H'
def TryN (K : PySem.W.Frag) (CF CM : Addr) : (XK → Hp → VK → Prop) → Hp → VK → Prop := fun tl H Q =>
  tl (fun cls d H' => PySem.W.exmAny K cls [.ref CF, .ref CM] = some true ∧ ∃ code v, ErrN K cls d H' code v ∧
      ∀ H'' t, Same H' H'' → H'' t = none → Q (.ref t) (upd H'' t (.tup [.str code, v]))) H
    (fun v H' => 2 ≤ sizeLine ∧ ∀ t, H' t = none → Q (.ref t) (upd H' t (.tup [.str (Str.ofString "value"), v])))
section
variable {K : PySem.W.Frag} {mg : Str → Option Value} {x : Str} {C d : Addr} {H : Hp}
/-- an error of a code that has no field -/
theorem errN_0 {code : Str} (T : ErrC K mg x C) (h : H d = some (.xd [("code", .str code)])) (e : fldOf code = none) : ErrN K (.ref C) (some d) H code .non :=
  ⟨C, d, _, rfl, rfl, h, T.xf, T.nc, rfl, (fun y hy => by rw [e] at hy; cases hy), fun _ => rfl⟩
theorem errN_1 {code y : Str} {v : V} (T : ErrC K mg x C) (h : H d = some (.xd [(y, v), ("code", .str code)])) (e : fldOf code = some y) (ny : PySem.W.findIn K (.ref C) y = some none) (nc : y ≠ "code") : ErrN K (.ref C) (some d) H code v := by
  refine ⟨C, d, _, rfl, rfl, h, T.xf, T.nc, ?_, fun z hz => ?_, fun z => by rw [e] at z; cases z⟩
  · rw [List.lookup_cons, show (("code" : Str) == y) = false from beq_eq_false_iff_ne.mpr nc.symm]
    rfl
  · rw [e] at hz
    cases hz
    refine ⟨ny, ?_⟩
    rw [List.lookup_cons, beq_self_eq_true]
theorem fl_il : fldOf "InvalidLetters" = none := by decide +kernel
theorem fl_nt : fldOf "NoTemplate" = none := by decide +kernel
theorem fl_ul : fldOf "UnknownLetter" = some "position" := by decide +kernel
end
/-! ### a text that stands in another one from a place on -/
theorem sw3 {xs ys : List Nat} {i : Nat} (hi : i ≤ xs.length) : Txt.startswith3 (S xs) (S ys) (i : Int) = decide (ys <+: xs.drop i) := by
  unfold Txt.startswith3
  have e : PySem.fromIndex (S xs).length (i : Int) = i := by
    unfold PySem.fromIndex
    rw [if_neg (by omega)]
    omega
  rw [e, PySem.StrLaws.subAt_eq, S_len, S_len]
  show (decide (i + ys.length ≤ xs.length) && ((xs.drop i).take ys.length == ys)) = _
  by_cases h : ys <+: xs.drop i
  · have hl := h.length_le
    rw [List.length_drop] at hl
    rw [decide_eq_true h, decide_eq_true (by omega), ← List.prefix_iff_eq_take.mp h]
    simp
  · rw [decide_eq_false h]
    have : ((xs.drop i).take ys.length == ys) = false := by
      rw [beq_eq_false_iff_ne]
      exact fun z => h (List.prefix_iff_eq_take.mpr z.symm)
    rw [this, Bool.and_false]
/-! ### every text of the letters is read -/
theorem reads_ex {gs : List Nat} {M : Nat} (hg : Good gs) (hM : 0 < M) : ∀ (n : Nat) (w : List Nat), w.length ≤ n → (∀ c ∈ w, c ∈ gs) → ∃ row, Reads gs M w row
  | _, [], _, _ => ⟨[], .nil⟩
  | 0, c :: w, h, _ => by simp at h
  | n + 1, c :: w, h, hm => by
    by_cases hb : ∃ t : List Nat, t.Perm gs ∧ qL t M <+: c :: w
    · obtain ⟨t, pt, z, hz⟩ := hb
      have hq : 0 < (qL t M).length := by rw [qL_len, pt.length_eq]; exact Nat.mul_pos hM (by have := hg.lo; omega)
      have hl := congrArg List.length hz
      rw [List.length_append, List.length_cons] at hl
      rw [List.length_cons] at h
      obtain ⟨row, hr⟩ := reads_ex hg hM n z (by omega) fun x hx => hm x (by rw [← hz]; exact List.mem_append_right _ hx)
      exact ⟨t :: row, by rw [← hz]; exact .blank pt hr⟩
    · rw [List.length_cons] at h
      obtain ⟨row, hr⟩ := reads_ex hg hM n w (by omega) fun x hx => hm x (List.mem_cons_of_mem _ hx)
      exact ⟨[c] :: row, .letter (hm c (List.mem_cons_self ..)) (fun t pt hp => hb ⟨t, pt, hp⟩) hr⟩
theorem q_inj {gs t u : List Nat} {M : Nat} (hM : 0 < M) (pt : t.Perm gs) (pu : u.Perm gs) {w : List Nat} (h : qL u M <+: qL t M ++ w) : u = t := by
  have hlen : (qL u M).length = (qL t M).length := by rw [qL_len, qL_len, pu.length_eq, pt.length_eq]
  obtain ⟨x, hx⟩ := h
  have := (List.append_inj (hx.trans rfl) hlen).1
  rw [← evr_q hM u, ← evr_q hM t, this]
/-! ### the turns that an exchange of two and the turning round of all make -/
def swL (gs : List Nat) : List Nat := (gs.drop 1).take 1 ++ gs.take 1 ++ gs.drop 2
def cyL (gs : List Nat) : List Nat := gs.drop 1 ++ gs.take 1
theorem sw_perm : ∀ gs : List Nat, (swL gs).Perm gs
  | [] => .refl _
  | [a] => .refl _
  | a :: b :: r => .swap ..
theorem cy_perm (gs : List Nat) : (cyL gs).Perm gs := by
  unfold cyL
  refine List.perm_append_comm.trans ?_
  rw [List.take_append_drop]
theorem all_made {gs : List Nat} {ls : List (List Nat)} (hg : Good gs) (h3 : gs.length ≤ 3) (C : Clo gs [swL gs, cyL gs] ls) (x : List Nat) : x ∈ ls ↔ x.Perm gs := by
  have hts : ∀ t ∈ [swL gs, cyL gs], t.Perm gs := fun t ht => by
    simp only [List.mem_cons, List.not_mem_nil, or_false] at ht
    rcases ht with rfl | rfl
    · exact sw_perm _
    · exact cy_perm _
  rw [C.mem]
  refine ⟨fun h => h.perm hg.nd hts, fun p => ?_⟩
  have hlo := hg.lo
  have nd := hg.nd
  have nx : x.Nodup := p.symm.nodup nd
  have one : InC gs [swL gs, cyL gs] gs := .one
  match gs, hlo, h3, nd, p, one with
  | [a, b], _, _, nd, p, one =>
    have ab : a ≠ b := by simp at nd; exact nd
    have t1 : tau [a, b] [b, a] a = b := tau_get (t := [b, a]) nd rfl (i := 0) rfl rfl
    have t2 : tau [a, b] [b, a] b = a := tau_get (t := [b, a]) nd rfl (i := 1) rfl rfl
    have s1 : InC [a, b] [[b, a], [b, a]] ([a, b].map (tau [a, b] [b, a])) := .step one (List.mem_cons_self ..)
    rw [List.map_cons, List.map_cons, List.map_nil, t1, t2] at s1
    have hl := p.length_eq
    match x, hl with
    | [u, v], _ =>
      have hu := p.mem_iff.mp (show u ∈ [u, v] by simp)
      have hv := p.mem_iff.mp (show v ∈ [u, v] by simp)
      simp only [List.mem_cons, List.not_mem_nil, or_false] at hu hv
      rcases hu with rfl | rfl <;> rcases hv with rfl | rfl
      · simp at nx
      · exact one
      · exact s1
      · simp at nx
  | [a, b, c], _, _, nd, p, one =>
    have s : ∀ {z : List Nat}, InC [a, b, c] [[b, a, c], [b, c, a]] z → InC [a, b, c] [[b, a, c], [b, c, a]] (z.map (tau [a, b, c] [b, a, c])) := fun h => .step h (List.mem_cons_self ..)
    have r : ∀ {z : List Nat}, InC [a, b, c] [[b, a, c], [b, c, a]] z → InC [a, b, c] [[b, a, c], [b, c, a]] (z.map (tau [a, b, c] [b, c, a])) := fun h => .step h (List.mem_cons_of_mem _ (List.mem_cons_self ..))
    have t1 : tau [a, b, c] [b, a, c] a = b := tau_get (t := [b, a, c]) nd rfl (i := 0) rfl rfl
    have t2 : tau [a, b, c] [b, a, c] b = a := tau_get (t := [b, a, c]) nd rfl (i := 1) rfl rfl
    have t3 : tau [a, b, c] [b, a, c] c = c := tau_get (t := [b, a, c]) nd rfl (i := 2) rfl rfl
    have u1 : tau [a, b, c] [b, c, a] a = b := tau_get (t := [b, c, a]) nd rfl (i := 0) rfl rfl
    have u2 : tau [a, b, c] [b, c, a] b = c := tau_get (t := [b, c, a]) nd rfl (i := 1) rfl rfl
    have u3 : tau [a, b, c] [b, c, a] c = a := tau_get (t := [b, c, a]) nd rfl (i := 2) rfl rfl
    have z1 : InC [a, b, c] [[b, a, c], [b, c, a]] [a, b, c] := one
    have z2 := s z1
    have z3 := r z1
    simp only [List.map_cons, List.map_nil, t1, t2, t3, u1, u2, u3] at z2 z3
    have z4 := r z3
    have z5 := r z2
    simp only [List.map_cons, List.map_nil, t1, t2, t3, u1, u2, u3] at z4 z5
    have z6 := r z5
    simp only [List.map_cons, List.map_nil, t1, t2, t3, u1, u2, u3] at z6
    have hl := p.length_eq
    match x, hl with
    | [u, v, w], _ =>
      have hu := p.mem_iff.mp (show u ∈ [u, v, w] by simp)
      have hv := p.mem_iff.mp (show v ∈ [u, v, w] by simp)
      have hw := p.mem_iff.mp (show w ∈ [u, v, w] by simp)
      simp only [List.mem_cons, List.not_mem_nil, or_false] at hu hv hw
      rcases hu with rfl | rfl | rfl <;> rcases hv with rfl | rfl | rfl <;> rcases hw with rfl | rfl | rfl <;> first | assumption | (exfalso; simp at nx)
/-! ### promises -/
def spGrp (K : PySem.W.Frag) : Sp := fun vs H Q _ => ∃ gs ts a, vs = [tx gs, .ref a] ∧ SqL K H a (ts.map tx) ∧ (∀ H' p cs, Same H H' → H p = none → H' p = some (.lst (cs.map tx)) → Clo gs ts cs → Q (.ref p) H') ∧
  gs.Nodup ∧ gs.length ≤ 4 ∧ (∀ t ∈ ts, t.Perm gs) ∧ ts.length ≤ 1000
def spRo (K : PySem.W.Frag) : Sp := fun vs H Q _ => ∃ (gs ans : List Nat) (n : Nat) (L : Addr) (cs row : List (List Nat)), vs = [tx gs, .int (n : Int), tx ans, .ref L] ∧ Good gs ∧ n ≤ 200 ∧ ans.length ≤ 900 ∧
  SqL K H L (cs.map tx) ∧ cs.length ≤ 900 ∧ (∀ x, x ∈ cs ↔ x.Perm gs) ∧ Reads gs (n + 1) ans row ∧
  (nLt row ≤ n → ∀ H' p, Same H H' → H p = none → H' p = some (.lst (row.map tx)) → Q (.ref p) H') ∧ (n < nLt row → ∀ H', Same H H' → Q .non H')
def spQuI (CI : Addr) : Sp := fun vs H _ E => ∃ (cs : List Nat) (y : V), vs = [tx cs, y] ∧ ¬ Valid cs ∧ cs.length ≤ 900 ∧ ∀ H' d, Same H H' → H' d = some (.xd [("code", .str "InvalidLetters")]) → E (.ref CI) (some d) H'
def spRTI (CI : Addr) : Sp := fun vs H _ E => ∃ (cs : List Nat) (y z : V), vs = [tx cs, y, z] ∧ ¬ Valid cs ∧ cs.length ≤ 900 ∧ ∀ H' d, Same H H' → H' d = some (.xd [("code", .str "InvalidLetters")]) → E (.ref CI) (some d) H'
def spRTU (CT : Addr) : Sp := fun vs H _ E => ∃ (gs ans : List Nat) (s i : Nat), vs = [tx gs, .int (s : Int), tx ans] ∧ Good gs ∧ s ≤ 200 ∧ Bad gs ans i ∧
  ∀ H' d, Same H H' → H' d = some (.xd [("position", .int (i : Nat)), ("code", .str "UnknownLetter")]) → E (.ref CT) (some d) H'
def spRTN (C CN : Addr) : Sp := fun vs H Q E => ∃ (gs ans : List Nat) (s : Nat) (row : List (List Nat)), vs = [tx gs, .int (s : Int), tx ans] ∧ Good gs ∧ s ≤ 200 ∧ ans.length ≤ 1000 ∧ Reads gs (s + 1) ans row ∧ row.length ≤ 160 ∧
  (nLt row ≤ s → ∀ H' p, Same H H' → H p = none → Tm C H' p gs row → Q (.ref p) H') ∧ (s < nLt row → ∀ H' d, Same H H' → H' d = some (.xd [("code", .str "NoTemplate")]) → E (.ref CN) (some d) H')
end Own

namespace Own
open PySem PySem.Spec PyProof.Rows L2 SX RZ
def topS (i : Nat) : Stmt :=
  PySem.Challenge.pw_ownfill_k71_answers_of_no_template.main.body.getD i (.Pass ⟨0, 0, 0, 0⟩)
section
variable {P : Program} {w : World} {K : PySem.W.Frag} {mg : Str → Option Value} {base : Heap}
abbrev sDraws : Stmt := topS 36
theorem scDraws : FnScope ["_law_script", "_law_state", "_law_cell"] ["_law_script"] (defScope sDraws) :=
  ⟨rfl, rfl, rfl, by decide +kernel, rfl, by decide +kernel, by decide +kernel⟩
theorem ok_draws {f : Addr} {fd : FuncData} (F : Fun K "_law_draws" "_law_draws" sDraws f fd)
    (mi : mg "int" = none) (ml : mg "list" = none) :
    FnOk P w K mg base CX0 1 f fd ["_law_script"] (spDraws K) := by
  refine F.ok scDraws (fun vs H Q E h => ?_) (fun cdv A outer s H vs Q E hr h => ?_)
  · obtain ⟨a, ns, rfl, _⟩ := h
    rfl
  · obtain ⟨a, ns, rfl, hS, q⟩ := h
    refine ⟨_, pss_cons (ps_set (i := 1) scDraws.nd rfl (.inl rfl) pe_int)
      (pss_cons (ps_for PassesOwn.never rfl
          (pi_list (pe_slice sl_list (pv 0) po_none (po_some pe_int)))
          (pg_name (i := 2) scDraws.nd rfl (.inl rfl))
          (pss_one (ps_set (i := 1) scDraws.nd rfl (.inl rfl)
            (pe_op op_mod (pe_callTy call_int1 (by rfl) mi (by decide +kernel) (pa_cons
              (pe_op op_add (pe_op op_add (pe_op op_mul (pv 1) pe_int)
                (pe_op op_mod (pe_callTy call_int1 (by rfl) mi (by decide +kernel) (pa_cons (pv 2) pa_nil)) pe_int))
                pe_int) pa_nil)) pe_int))))
      (pss_one (ps_ret (pe_lst (pa_cons (pe_callTy call_list_of (by rfl) ml (by decide +kernel)
          (pa_cons (pe_slice sl_list (pv 0) po_none (po_some pe_int)) pa_nil))
        (pa_cons pe_int (pa_cons pe_int (pa_cons (pv 1) (pa_cons pe_int pa_nil))))))))), ?_⟩
    refine ⟨.ref a, rfl, 63, rfl, a, ns.map V.int, rfl, hS, fun p np => ?_⟩
    have hcut : cutV (ns.map V.int) none (some 63) = (ns.take 63).map V.int := by
      unfold cutV
      rw [HT.sIx_none, show HT.sIx (ns.map V.int).length (ns.map V.int).length (some 63) =
        min 63 (ns.map V.int).length from HT.sIx_nat _ _ 63, List.drop_zero, Nat.sub_zero,
        ← List.map_take]
      congr 1
      rw [List.length_map, List.take_eq_take_iff]
      omega
    rw [hcut]
    have s1 : Same H (upd H p (.lst ((ns.take 63).map V.int))) := fun b o e => by
      rw [upd_ne (ne_of_none e np)]; exact e
    refine ⟨p, rfl, ⟨_, .inl (.inl upd_same)⟩, for_list (K := K) (a := p) (xs := (ns.take 63).map V.int)
      (fun i σ H' => ∃ (st : Int) (v : Option V), σ = [some (.ref a), some (.int st), v] ∧
        H' = upd H p (.lst ((ns.take 63).map V.int)))
      ⟨3833, none, rfl, rfl⟩ (fun i σ H' _ ⟨_, _, _, e⟩ => by rw [e]; exact .inl (.inl upd_same)) ?_ ?_⟩
    · rintro i y σ H' hi ⟨st, v, rfl, rfl⟩
      obtain ⟨u, rfl⟩ : ∃ u, y = V.int u := by
        rw [List.getElem?_map] at hi
        cases e : (ns.take 63)[i]? with
        | none => rw [e] at hi; cases hi
        | some u => rw [e] at hi; exact ⟨u, (Option.some.inj hi).symm⟩
      refine ⟨_, rfl, _, _, rfl, rfl, .inr ⟨by decide, by decide⟩, _, rfl, .inl ⟨_, rfl, _, _, rfl, rfl,
        (by show (0 : Int) < 2147483587; decide), _, _, rfl, rfl, _, _, rfl, rfl, .inl ⟨_, rfl, _, _, rfl, rfl,
        (by show (0 : Int) < 2147483647; decide), ?_⟩⟩⟩
      exact ⟨_, _, rfl, rfl⟩
    · rintro σ H' ⟨st, v, rfl, rfl⟩
      refine ⟨.ref a, rfl, 63, rfl, a, ns.map V.int, rfl, s1.seq hS, fun p2 np2 => ?_⟩
      rw [hcut]
      refine ⟨p2, _, rfl, .inl (.inl (.inl upd_same)), fun l nl => ?_⟩
      refine ⟨.int st, rfl, (by show 5 ≤ sizeLine; decide), fun r nr => ?_⟩
      have s2 := fun b o (e : H b = some o) => s1 b o e
      refine q _ r (fun b o e => ?_) ?_ ?_
      · have e1 := s1 b o e
        have e2 : (upd (upd H p (.lst ((ns.take 63).map V.int))) p2 (.lst ((ns.take 63).map V.int))) b = some o := by
          rw [upd_ne (ne_of_none e1 np2)]; exact e1
        have e3 : (upd (upd (upd H p (.lst ((ns.take 63).map V.int))) p2 (.lst ((ns.take 63).map V.int))) l
            (.lst ((ns.take 63).map V.int))) b = some o := by
          rw [upd_ne (ne_of_none e2 nl)]; exact e2
        rw [upd_ne (ne_of_none e3 nr)]
        exact e3
      · cases e : H r with
        | none => rfl
        | some o =>
          have e1 := s1 r o e
          have e2 : (upd (upd H p (.lst ((ns.take 63).map V.int))) p2 (.lst ((ns.take 63).map V.int))) r = some o := by
            rw [upd_ne (ne_of_none e1 np2)]; exact e1
          rw [upd_ne (ne_of_none e2 nl)] at nr
          rw [e2] at nr
          cases nr
      · refine ⟨l, ns.take 63, 0, 0, st, 0, Int.le_refl 0, upd_same, ?_⟩
        have nlr : l ≠ r := fun e => by
          rw [← e, upd_same] at nr
          cases nr
        rw [upd_ne nlr, upd_same]
abbrev sDraw : Stmt := topS 37
theorem scDraw : FnScope ["_law_rng", "_law_sides", "_law_cell", "_law_digit", "_law_seed"]
    ["_law_rng", "_law_sides"] (defScope sDraw) :=
  ⟨rfl, rfl, rfl, by decide +kernel, rfl, by decide +kernel, by decide +kernel⟩
theorem ok_draw {f : Addr} {fd : FuncData} (F : Fun K "_law_draw" "_law_draw" sDraw f fd)
    (mi : mg "int" = none) (ml : mg "len" = none) :
    FnOk P w K mg base CX0 1 f fd ["_law_rng", "_law_sides"] spDraw := by
  refine F.ok scDraw (fun vs H Q E h => ?_) (fun cdv A outer s H vs Q E hr h => ?_)
  · obtain ⟨r, n, rfl, _⟩ := h
    rfl
  · obtain ⟨r, n, rfl, hn, hn2, ⟨l, ns, i, b, z, c, R⟩, q⟩ := h
    have R0 : RngL H r l := ⟨ns, i, b, z, c, R⟩
    refine ⟨_, pss_cons (ps_asg (pe_op op_add (pe_ix ix_list (pv 0) pe_int (fun _ _ => rfl)) pe_int)
        (pg_sub (pv 0) pe_int set_list))
      (C8.pss_cut (ps_if (PW.pt (pw_and (pt_cmpR op_eq (pe_ix ix_list (pv 0) pe_int (fun _ _ => rfl)) pe_int (nomark _))
          (pw_and1 (pt_cmpR op_lt (pe_ix ix_list (pv 0) pe_int (fun _ _ => rfl))
            (pe_callB call_len_seq (by rfl) ml PySem.boot_len (pa_cons (pe_ix ix_list (pv 0) pe_int (fun _ _ => rfl)) pa_nil))
            (nomark _)))))
        (pss_cons (ps_set (i := 2) scDraw.nd rfl (.inl rfl)
            (pe_ix ix_list (pe_ix ix_list (pv 0) pe_int (fun _ _ => rfl)) (pe_ix ix_list (pv 0) pe_int (fun _ _ => rfl)) (fun _ _ => rfl)))
        (pss_cons (ps_asg (pe_op op_add (pe_ix ix_list (pv 0) pe_int (fun _ _ => rfl)) pe_int) (pg_sub (pv 0) pe_int set_list))
        (pss_one (ps_if (pt_cmpR op_ge (pv 2) (pe_op op_pow pe_int pe_int) (nomark _))
          (pss_one (ps_asg (pv 2) (pg_sub (pv 0) pe_int set_list)))
          (pss_one (ps_asg (pe_op op_mod (pe_callTy call_int1 (by rfl) mi (by decide +kernel) (pa_cons
              (pe_op op_add (pe_op op_add (pe_op op_mul (pe_ix ix_list (pv 0) pe_int (fun _ _ => rfl)) pe_int)
                (pe_op op_mul (pe_op op_mod (pe_callTy call_int1 (by rfl) mi (by decide +kernel) (pa_cons (pv 2) pa_nil)) pe_int) pe_int))
                pe_int) pa_nil)) pe_int) (pg_sub (pv 0) pe_int set_list)))))))
        pss_nil)
      (pss_cons (ps_if (pt_cmpR op_gt (pe_ix ix_list (pv 0) pe_int (fun _ _ => rfl)) pe_int (nomark _))
        (pss_cons (ps_set (i := 3) scDraw.nd rfl (.inl rfl) (pe_op op_mod (pe_callTy call_int1 (by rfl) mi (by decide +kernel)
            (pa_cons (pe_ix ix_list (pv 0) pe_int (fun _ _ => rfl)) pa_nil)) (pv 1)))
        (pss_cons (ps_asg (pe_op op_fdiv (pe_ix ix_list (pv 0) pe_int (fun _ _ => rfl)) (pv 1)) (pg_sub (pv 0) pe_int set_list))
        (pss_one (ps_ret (pv 3))))) pss_nil)
      (pss_cons (ps_set (i := 4) scDraw.nd rfl (.inl rfl) (pe_ix ix_list (pv 0) pe_int (fun _ _ => rfl)))
      (pss_cons (ps_asg (pe_op op_mod (pe_callTy call_int1 (by rfl) mi (by decide +kernel) (pa_cons
          (pe_op op_add (pe_op op_add (pe_op op_add (pe_op op_mul (pv 4) pe_int)
            (pe_op op_mul (pe_op op_fdiv (pv 4) pe_int) pe_int))
            (pe_op op_mul (pe_ix ix_list (pv 0) pe_int (fun _ _ => rfl)) pe_int)) pe_int) pa_nil)) pe_int)
          (pg_sub (pv 0) pe_int set_list))
      (pss_one (ps_ret (pe_op op_mod (pe_callTy call_int1 (by rfl) mi (by decide +kernel) (pa_cons
          (pe_op op_add (pe_op op_fdiv (pe_ix ix_list (pv 0) pe_int (fun _ _ => rfl)) pe_int)
            (pe_op op_mul (pe_op op_mod (pe_callTy call_int1 (by rfl) mi (by decide +kernel)
              (pa_cons (pe_ix ix_list (pv 0) pe_int (fun _ _ => rfl)) pa_nil)) pe_int) pe_int)) pa_nil)) (pv 1)))))))), ?_⟩
    have at0 : ∀ {l : Addr} {i b z c : Int}, atI [V.ref l, .int i, .int b, .int z, .int c] 0 = some (.ref l) := atI_nat (j := 0) rfl
    have at1 : ∀ {l : Addr} {i b z c : Int}, atI [V.ref l, .int i, .int b, .int z, .int c] 1 = some (.int i) := atI_nat (j := 1) rfl
    have at2 : ∀ {l : Addr} {i b z c : Int}, atI [V.ref l, .int i, .int b, .int z, .int c] 2 = some (.int b) := atI_nat (j := 2) rfl
    have at3 : ∀ {l : Addr} {i b z c : Int}, atI [V.ref l, .int i, .int b, .int z, .int c] 3 = some (.int z) := atI_nat (j := 3) rfl
    have at4 : ∀ {l : Addr} {i b z c : Int}, atI [V.ref l, .int i, .int b, .int z, .int c] 4 = some (.int c) := atI_nat (j := 4) rfl
    -- rng[4] += 1
    refine ⟨_, rfl, r, _, 4, _, rfl, rfl, SqL.of R.2.1, at4, _, _, rfl, rfl, _, rfl, r, _, 4, 4, rfl, rfl, R.2.1, rfl, ?_⟩
    have R1 : RngV (upd H r (.lst [.ref l, .int i, .int b, .int z, .int (c + 1)])) r l ns i b z (c + 1) := R.put R.1
    have g1 : ∀ x o, x ≠ r → H x = some o → upd H r (.lst [.ref l, .int i, .int b, .int z, .int (c + 1)]) x = some o :=
      fun x o nx e => by rw [upd_ne nx]; exact e
    refine ⟨fun σ H' => ∃ v2 v3 v4, σ = [some (.ref r), some (.int n), v2, v3, v4] ∧
      (∀ x o, x ≠ r → H x = some o → H' x = some o) ∧ RngL H' r l, ?_, ?_⟩
    · -- the script's next cell
      refine ⟨_, rfl, r, _, 2, _, rfl, rfl, SqL.of R1.2.1, at2, rfl, _, rfl, ?_⟩
      refine ite2 (fun _ => ?_) (fun _ => iteF ⟨none, none, none, rfl, g1, _, _, _, _, _, R1⟩)
      refine ⟨_, rfl, r, _, 1, _, rfl, rfl, SqL.of R1.2.1, at1, _, rfl, r, _, 0, _, rfl, rfl, SqL.of R1.2.1, at0,
        l, _, rfl, .inl (SqL.of R1.2.2), _, _, rfl, rfl, _, rfl, ?_⟩
      refine ite2 (fun hlt => ?_) (fun _ => ⟨none, none, none, rfl, g1, _, _, _, _, _, R1⟩)
      have hlt2 : i < ((ns.map V.int).length : Int) := of_decide_eq_true hlt
      rw [List.length_map] at hlt2
      obtain ⟨j, rfl⟩ := Int.eq_ofNat_of_zero_le R.1
      have hj : j < ns.length := by omega
      have gj : (ns.map V.int)[j]? = some (.int ns[j]) := by
        rw [List.getElem?_map, List.getElem?_eq_getElem hj]; rfl
      refine ⟨_, rfl, r, _, 0, _, rfl, rfl, SqL.of R1.2.1, at0, _, rfl, r, _, 1, _, rfl, rfl, SqL.of R1.2.1, at1,
        l, _, _, _, rfl, rfl, SqL.of R1.2.2, atI_nat gj, ?_⟩
      refine ⟨_, rfl, r, _, 1, _, rfl, rfl, SqL.of R1.2.1, at1, _, _, rfl, rfl, _, rfl, r, _, 1, 1, rfl, rfl, R1.2.1, rfl, ?_⟩
      have R2 := R1.put (i' := (j : Int) + 1) (b' := b) (s' := z) (c' := c + 1) (by omega)
      have g2 : ∀ x o, x ≠ r → H x = some o →
          upd (upd H r (.lst [.ref l, .int (j : Int), .int b, .int z, .int (c + 1)])) r
            (.lst [.ref l, .int ((j : Int) + 1), .int b, .int z, .int (c + 1)]) x = some o :=
        fun x o nx e => by rw [upd_ne nx]; exact g1 x o nx e
      refine ⟨_, rfl, _, _, rfl, rfl, ⟨by decide, by decide, by decide⟩, _, _, rfl, rfl, _, rfl, ?_⟩
      refine ite2 (fun _ => ?_) (fun _ => ?_)
      · refine ⟨_, rfl, _, rfl, r, _, 2, 2, rfl, rfl, R2.2.1, rfl, ?_⟩
        exact ⟨_, none, none, rfl, fun x o nx e => by rw [upd_ne nx]; exact g2 x o nx e, _, _, _, _, _, R2.put (by omega)⟩
      · refine ⟨_, rfl, r, _, 3, _, rfl, rfl, SqL.of R2.2.1, at3, _, _, rfl, rfl, .inr ⟨by decide, by decide⟩, _, rfl,
          .inl ⟨_, rfl, _, _, rfl, rfl, (by show (0 : Int) < 2147483579; decide), _, _, rfl, rfl, .inr ⟨by decide, by decide⟩,
          _, _, rfl, rfl, _, _, rfl, rfl, .inl ⟨_, rfl, _, _, rfl, rfl, (by show (0 : Int) < 2147483647; decide),
          _, rfl, r, _, 3, 3, rfl, rfl, R2.2.1, rfl, ?_⟩⟩⟩
        exact ⟨_, none, none, rfl, fun x o nx e => by rw [upd_ne nx]; exact g2 x o nx e, _, _, _, _, _, R2.put (by omega)⟩
    · rintro σ H' ⟨v2, v3, v4, rfl, g, ns, i, b, z, c, R⟩
      refine ⟨_, rfl, r, _, 2, _, rfl, rfl, SqL.of R.2.1, at2, _, _, rfl, rfl, _, rfl, ?_⟩
      refine ite2 (fun hb => ?_) (fun _ => ?_)
      · refine ⟨_, rfl, r, _, 2, _, rfl, rfl, SqL.of R.2.1, at2, .inl ⟨_, rfl, _, rfl, _, _, rfl, rfl, hn, ?_⟩⟩
        refine ⟨_, rfl, r, _, 2, _, rfl, rfl, SqL.of R.2.1, at2, _, rfl, _, _, rfl, rfl, ⟨hn, by omega⟩, _, rfl, r, _, 2, 2, rfl, rfl, R.2.1, rfl, ?_⟩
        refine ⟨_, rfl, q _ _ ⟨fun x o nx e => by rw [upd_ne nx]; exact g x o nx e, l, R0, _, _, _, _, _, R.put R.1⟩ ?_ ?_⟩
        · exact Int.emod_nonneg _ (by omega)
        · exact Int.emod_lt_of_pos _ hn
      · refine ⟨_, rfl, r, _, 3, _, rfl, rfl, SqL.of R.2.1, at3, ?_⟩
        refine ⟨_, rfl, _, _, rfl, rfl, .inr ⟨by decide, by decide⟩, _, rfl, _, _, rfl, rfl, ⟨by decide, by decide⟩,
          _, _, rfl, rfl, .inr ⟨by decide, by decide⟩, _, _, rfl, rfl, _, rfl, r, _, 4, _, rfl, rfl, SqL.of R.2.1, at4,
          _, _, rfl, rfl, .inr ⟨by decide, by decide⟩, _, _, rfl, rfl, _, _, rfl, rfl, .inl ⟨_, rfl, _, _, rfl, rfl,
          (by show (0 : Int) < 2147483647; decide), _, rfl, r, _, 3, 3, rfl, rfl, R.2.1, rfl, ?_⟩⟩
        have R2 := fun z' => R.put (i' := i) (b' := b) (s' := z') (c' := c) R.1
        refine ⟨_, rfl, r, _, 3, _, rfl, rfl, SqL.of (R2 _).2.1, at3, _, _, rfl, rfl, ⟨by decide, by decide⟩, _, rfl, r, _, 3, _, rfl, rfl,
          SqL.of (R2 _).2.1, at3, .inl ⟨_, rfl, _, _, rfl, rfl, (by show (0 : Int) < 7907; decide), _, _, rfl, rfl, .inr ⟨by decide, by decide⟩,
          _, _, rfl, rfl, .inl ⟨_, rfl, _, rfl, _, _, rfl, rfl, hn, ?_⟩⟩⟩
        refine q _ _ ⟨fun x o nx e => by rw [upd_ne nx]; exact g x o nx e, l, R0, _, _, _, _, _, R2 _⟩ ?_ ?_
        · exact Int.emod_nonneg _ (by omega)
        · exact Int.emod_lt_of_pos _ hn
abbrev sPick : Stmt := topS 38
theorem scPick : FnScope ["_law_rng", "_law_things"] ["_law_rng", "_law_things"] (defScope sPick) :=
  ⟨rfl, rfl, rfl, by decide +kernel, rfl, by decide +kernel, by decide +kernel⟩
theorem ok_pick {f fD : Addr} {fd fdD : FuncData} (F : Fun K "_law_pick" "_law_pick" sPick f fd)
    (FD : Fun K "_law_draw" "_law_draw" sDraw fD fdD) (bD : Binds K fdD ["_law_rng", "_law_sides"] [])
    (gD : mg "_law_draw" = some (.ref fD)) (mi : mg "int" = none) (ml : mg "len" = none) :
    FnOk P w K mg base CX0 2 f fd ["_law_rng", "_law_things"] (spPick K) := by
  have GD : FnOk P w K mg base CX0 1 fD fdD ["_law_rng", "_law_sides"] spDraw := ok_draw FD mi ml
  refine F.ok scPick (fun vs H Q E h => ?_) (fun cdv A outer s H vs Q E hr h => ?_)
  · obtain ⟨r, x, rfl, _⟩ := h
    rfl
  · obtain ⟨r, x, rfl, R, h⟩ := h
    refine ⟨_, pss_one (ps_ret (pe_ix ix_seq (pv 1) (pe_call GD hr (by rfl) gD FD.kp bD .nil pass0
      (pa_cons (pv 0) (pa_cons (pe_callB call_len (by rfl) ml PySem.boot_len (pa_cons (pv 1) pa_nil)) pa_nil)))
      (fun _ _ => rfl))), ?_⟩
    rcases h with ⟨a, xs, rfl, nar, hS, h0, h1, q⟩ | ⟨cs, rfl, h0, h1, q⟩
    · refine ⟨_, rfl, _, rfl, _, rfl, _, xs.length, rfl, .inl ⟨_, hS, rfl⟩, r, _, rfl, by omega, by omega, R, fun H' k g k0 k1 => ?_⟩
      obtain ⟨j, rfl⟩ := Int.eq_ofNat_of_zero_le k0
      have hj : j < xs.length := by omega
      exact .inl ⟨a, xs, _, xs[j], rfl, rfl, g.seq nar hS, atI_nat (List.getElem?_eq_getElem hj), q _ _ g (List.getElem_mem hj)⟩
    · refine ⟨_, rfl, _, rfl, _, rfl, _, cs.length, rfl, ⟨by rw [S_len]; exact small h1, by rw [S_len]⟩, r, _, rfl, by omega, by omega, R, fun H' k g k0 k1 => ?_⟩
      obtain ⟨j, rfl⟩ := Int.eq_ofNat_of_zero_le k0
      have hj : j < cs.length := by omega
      exact .inr (.inr ⟨_, _, cs[j], rfl, rfl, by rw [S_len]; exact small h1, atI_nat (List.getElem?_eq_getElem hj), q _ _ g (List.getElem_mem hj)⟩)
abbrev sLetters : Stmt := topS 42
theorem scLetters : FnScope ["_law_rng", "_law_most", "_law_size", "_law_first", "_law_step", "_law_k"]
    ["_law_rng", "_law_most"] (defScope sLetters) :=
  ⟨rfl, rfl, rfl, by decide +kernel, rfl, by decide +kernel, by decide +kernel⟩
theorem ok_letters {f fD fP : Addr} {fd fdD fdP : FuncData} (F : Fun K "_law_letters" "_law_letters" sLetters f fd)
    (FD : Fun K "_law_draw" "_law_draw" sDraw fD fdD) (bD : Binds K fdD ["_law_rng", "_law_sides"] [])
    (gD : mg "_law_draw" = some (.ref fD))
    (FP : Fun K "_law_pick" "_law_pick" sPick fP fdP) (bP : Binds K fdP ["_law_rng", "_law_things"] [])
    (gP : mg "_law_pick" = some (.ref fP)) (mi : mg "int" = none) (ml : mg "len" = none)
    (mm : mg "min" = none) (mr : mg "range" = none) :
    FnOk P w K mg base CX0 3 f fd ["_law_rng", "_law_most"] spLetters := by
  have GD : FnOk P w K mg base CX0 1 fD fdD ["_law_rng", "_law_sides"] spDraw := ok_draw FD mi ml
  have GP : FnOk P w K mg base CX0 2 fP fdP ["_law_rng", "_law_things"] (spPick K) := ok_pick FP FD bD gD mi ml
  refine F.ok scLetters (fun vs H Q E h => ?_) (fun cdv A outer s H vs Q E hr h => ?_)
  · obtain ⟨r, m, rfl, _⟩ := h
    rfl
  · obtain ⟨r, m, rfl, hm, R, q⟩ := h
    have hr1 : Room 1 _ := hr.mono (by decide)
    refine ⟨_, pss_cons (ps_set (i := 2) scLetters.nd rfl (.inl rfl) (pe_callB (call_min2 rfl) (by rfl) mm (by decide +kernel)
        (pa_cons (pv 1) (pa_cons (pe_call GP hr (by rfl) gP FP.kp bP .nil pass0 (pa_cons (pv 0)
          (pa_cons (pe_lst (pa_cons pe_int (pa_cons pe_int (pa_cons pe_int (pa_cons pe_int (pa_cons pe_int (pa_cons pe_int pa_nil))))))) pa_nil))) pa_nil))))
      (pss_cons (ps_asg (pe_tup (pa_cons (pe_call GD hr1 (by rfl) gD FD.kp bD .nil pass0 (pa_cons (pv 0) (pa_cons pe_int pa_nil)))
          (pa_cons (pe_call GP hr (by rfl) gP FP.kp bP .nil pass0 (pa_cons (pv 0)
          (pa_cons (pe_lst (pa_cons pe_int (pa_cons pe_int (pa_cons pe_int (pa_cons pe_int (pa_cons pe_int pa_nil)))))) pa_nil))) pa_nil)))
          (pg_tup rfl (pgs_cons (pg_name (i := 3) scLetters.nd rfl (.inr rfl)) (pgs_cons (pg_name (i := 4) scLetters.nd rfl (.inr rfl)) pgs_nil))))
      (pss_one (ps_ret (pe_join pe_str (pe_lc (own := [("_law_k", 5)]) (g := gName 5) (tt := tYes) rfl scLetters.nd
        (pi_range1 rfl mr (pa_cons (pv 2) pa_nil))
        (blkOk_by (N := ["_law_rng", "_law_most", "_law_size", "_law_first", "_law_step", "_law_k"]) (sc := defScope sLetters) (by decide +kernel))
        (fun _ _ _ _ _ => pg_name (i := 5) scLetters.nd rfl (Or.inl rfl)) (fun _ _ _ _ _ => pts_nil)
        (fun _ _ _ _ _ => pe_ix ix_str pe_str (pe_op op_mod (pe_callTy call_int1 (by rfl) mi (by decide +kernel)
          (pa_cons (pe_op op_add (pv 3) (pe_op op_mul (pv 4) (pv 5))) pa_nil)) pe_int) (fun _ _ => rfl))))))), ?_⟩
    obtain ⟨xr, er⟩ := R.ex
    refine ⟨_, rfl, _, rfl, (by show 6 ≤ sizeLine; decide), fun l nl => ?_⟩
    refine ⟨r, .ref l, rfl, R.same (same_new nl), .inl ⟨l, _, rfl, (ne_of_none er nl).symm, .inl (.inl upd_same), by decide, by decide, fun H1 v g1 hv => ?_⟩⟩
    obtain ⟨j, rfl, hj⟩ : ∃ j : Nat, v = .int j ∧ j ∈ [2, 3, 4] := by
      simp only [List.mem_cons, List.not_mem_nil, or_false] at hv
      rcases hv with e | e | e | e | e | e <;>
        first | exact ⟨2, e, by decide⟩ | exact ⟨3, e, by decide⟩ | exact ⟨4, e, by decide⟩
    have G1 : Go r H H1 := Go.after R (same_new nl) g1
    obtain ⟨n, hn1, hn2, hn3⟩ : ∃ n : Nat, (if (j : Int) < m then (j : Int) else m) = (n : Int) ∧ n ∈ [2, 3, 4] ∧ (n : Int) ≤ m := by
      have hj2 : 2 ≤ j ∧ j ≤ 4 := by
        simp only [List.mem_cons, List.not_mem_nil, or_false] at hj
        omega
      by_cases h : (j : Int) < m
      · rw [if_pos h]
        exact ⟨j, rfl, hj, by omega⟩
      · rw [if_neg h]
        refine ⟨m.toNat, by omega, ?_, by omega⟩
        simp only [List.mem_cons, List.not_mem_nil, or_false]
        omega
    refine ⟨_, _, rfl, ?_⟩
    rw [hn1]
    refine ⟨_, rfl, r, 26, rfl, by decide, by decide, g1.rng, fun H2 f g2 f0 f1 => ?_⟩
    obtain ⟨f, rfl⟩ := Int.eq_ofNat_of_zero_le f0
    obtain ⟨x2, e2⟩ := g2.rng.ex
    refine ⟨_, rfl, (by show 5 ≤ sizeLine; decide), fun l2 nl2 => ?_⟩
    refine ⟨r, .ref l2, rfl, g2.rng.same (same_new nl2), .inl ⟨l2, _, rfl, (ne_of_none e2 nl2).symm, .inl (.inl upd_same), by decide, by decide, fun H3 v g3 hv => ?_⟩⟩
    obtain ⟨t, rfl, ht⟩ : ∃ j : Nat, v = .int j ∧ j ∈ [1, 3, 5, 25, 7] := by
      simp only [List.mem_cons, List.not_mem_nil, or_false] at hv
      rcases hv with e | e | e | e | e <;>
        first | exact ⟨1, e, by decide⟩ | exact ⟨3, e, by decide⟩ | exact ⟨5, e, by decide⟩ | exact ⟨25, e, by decide⟩ | exact ⟨7, e, by decide⟩
    have G3 : Go r H H3 := (G1.trans g2).trans (Go.after g2.rng (same_new nl2) g3)
    refine ⟨(by show 2 ≤ sizeLine; decide), fun T nT => ?_⟩
    refine ⟨T, _, rfl, .inl (.inl upd_same), rfl, _, _, rfl, _, _, rfl, rfl, ?_⟩
    have G4 := G3.same (same_new (o := .tup [.int (f : Int), .int (t : Int)]) nT)
    have hn4 : n ≤ 4 := by
      simp only [List.mem_cons, List.not_mem_nil, or_false] at hn2
      omega
    refine ⟨⟨_, rfl⟩, _, rfl, _, rfl, by omega, by omega, fun D nD => ?_⟩
    have t25 : t ≤ 25 := by
      simp only [List.mem_cons, List.not_mem_nil, or_false] at ht
      omega
    refine lc_range (lo := 0) (n := (n : Int).toNat)
      (fun i H' => H' = upd (upd H3 T (.tup [.int (f : Int), .int (t : Int)])) D (.lst ((lets f t i).map fun c => V.str (S [c])))) rfl ?_ ?_
    · rintro i H' hi rfl
      have ei : ((f : Int) + (t : Int) * (0 + (i : Int))) % 26 = (((f + t * i) % 26 : Nat) : Int) := by
        rw [Int.zero_add, ← Int.natCast_mul]
        generalize t * i = u
        omega
      have ec : (List.range' 97 26)[(f + t * i) % 26]? = some (97 + (f + t * i) % 26) := by
        rw [List.getElem?_range' (by omega)]
        simp
      refine ⟨rfl, _, rfl, _, rfl, _, rfl, _, _, rfl, rfl, .inl ⟨by omega, by omega⟩, _, _, rfl, rfl, .inl ⟨_, rfl, _, _, rfl, rfl,
        (by show (0 : Int) < 26; decide), ?_⟩⟩
      refine ⟨_, _, 97 + (f + t * i) % 26, rfl, rfl, by decide, ?_, _, upd_same, ?_, ?_⟩
      · show atI (Str.ofString "abcdefghijklmnopqrstuvwxyz").cps.toList (((f : Int) + (t : Int) * (0 + (i : Int))) % 26) = _
        rw [az, ei]
        exact atI_nat ec
      · rw [List.length_map]
        unfold lets
        rw [List.length_map, List.length_range]
        exact small1000 (by omega)
      · rw [upd_upd]
        unfold lets
        rw [List.range_succ, List.map_append, List.map_append]
        rfl
    · rintro H' rfl
      have nDr : D ≠ r := by
        obtain ⟨x4, e4⟩ := G4.rng.ex
        exact (ne_of_none e4 nD).symm
      refine ⟨_, D, (lets f t n).map (fun c => S [c]), rfl, rfl, .inl (.inl (.inl ?_)), ?_, ?_⟩
      · rw [upd_same, List.map_map]
        rfl
      · rw [one_len]
        have : (lets f t n).length = n := by unfold lets; rw [List.length_map, List.length_range]
        rw [this]
        show n + _ * 0 ≤ _
        omega
      · rw [joinC]
        refine q _ _ (G4.same (same_new nD)) (lets_good (by omega) ht hn2) ?_
        have : (lets f t n).length = n := by unfold lets; rw [List.length_map, List.length_range]
        omega
abbrev sTurn : Stmt := topS 43
theorem scTurn : FnScope ["_law_rng", "_law_signs", "_law_left", "_law_found", "_law_k", "_law_at"]
    ["_law_rng", "_law_signs"] (defScope sTurn) :=
  ⟨rfl, rfl, rfl, by decide +kernel, rfl, by decide +kernel, by decide +kernel⟩
theorem ok_turn {f fD : Addr} {fd fdD : FuncData} (F : Fun K "_law_turn" "_law_turn" sTurn f fd)
    (FD : Fun K "_law_draw" "_law_draw" sDraw fD fdD) (bD : Binds K fdD ["_law_rng", "_law_sides"] [])
    (gD : mg "_law_draw" = some (.ref fD)) (mi : mg "int" = none) (ml : mg "len" = none) (mr : mg "range" = none) :
    FnOk P w K mg base CX0 2 f fd ["_law_rng", "_law_signs"] spTurn := by
  have GD : FnOk P w K mg base CX0 1 fD fdD ["_law_rng", "_law_sides"] spDraw := ok_draw FD mi ml
  refine F.ok scTurn (fun vs H Q E h => ?_) (fun cdv A outer s H vs Q E hr h => ?_)
  · obtain ⟨r, x, rfl, _⟩ := h
    rfl
  · obtain ⟨r, gs, rfl, hl, R, q⟩ := h
    refine ⟨_, pss_cons (ps_if (pt_cmpR op_eq (pe_call GD hr (by rfl) gD FD.kp bD .nil pass0 (pa_cons (pv 0) (pa_cons pe_int pa_nil))) pe_int (nomark _))
        (pss_one (ps_ret (pv 1))) pss_nil)
      (pss_cons (ps_par (i := 2) (j := 3) (by rfl) scTurn.nd rfl rfl (by decide) rfl rfl (pa_cons (pv 1) (pa_cons pe_str pa_nil)) (by rfl))
      (pss_cons (ps_for PassesOwn.never rfl
          (pi_range1 rfl mr (pa_cons (pe_callB call_len_str (by rfl) ml PySem.boot_len (pa_cons (pv 1) pa_nil)) pa_nil))
          (pg_name (i := 4) scTurn.nd rfl (.inl rfl))
          (pss_cons (ps_set (i := 5) scTurn.nd rfl (.inl rfl) (pe_call GD hr (by rfl) gD FD.kp bD .nil pass0
              (pa_cons (pv 0) (pa_cons (pe_callB call_len_str (by rfl) ml PySem.boot_len (pa_cons (pv 2) pa_nil)) pa_nil))))
          (pss_one (ps_par (i := 3) (j := 2) (by rfl) scTurn.nd rfl rfl (by decide) rfl rfl
            (pa_cons (pe_op op_add_str (pv 3) (pe_ix ix_str (pv 2) (pv 5) (fun _ _ => rfl)))
            (pa_cons (pe_op op_add_str (pe_slice C8.sl_txt (pv 2) po_none (po_some (pv 5)))
              (pe_slice C8.sl_txt (pv 2) (po_some (pe_op op_add (pv 5) pe_int)) po_none)) pa_nil)) (by rfl)))))
      (pss_one (ps_ret (pv 3))))), ?_⟩
    refine ⟨_, rfl, r, 3, rfl, by decide, by decide, R, fun H1 k g1 k0 k1 => ⟨rfl, _, rfl, ?_⟩⟩
    refine ite2 (fun _ => ⟨_, rfl, q _ _ g1 (List.Perm.refl _)⟩) (fun _ => ?_)
    refine ⟨_, rfl, _, _, rfl, ?_⟩
    have hz : (S gs).length ≤ sizeLine := by rw [S_len]; exact small hl
    refine ⟨_, rfl, _, rfl, hz, _, rfl, by omega, by rw [S_len]; omega, ?_⟩
    refine for_range (lo := 0) (n := ((S gs).length : Int).toNat)
      (fun i σ H' => ∃ (ls fs : List Nat) (v4 v5 : Option V), σ = [some (.ref r), some (.str (S gs)), some (.str (S ls)), some (.str (S fs)), v4, v5] ∧
        Go r H H' ∧ (fs ++ ls).Perm gs ∧ ls.length + i = gs.length) ⟨gs, [], none, none, rfl, g1, List.Perm.refl _, rfl⟩ ?_ ?_
    · rintro i σ H' hi ⟨ls, fs, v4, v5, rfl, g, hp, hli⟩
      rw [S_len] at hi
      have hls : ls.length ≤ 1000 := by omega
      have hfs : fs.length ≤ 1000 := by
        have e := hp.length_eq
        rw [List.length_append] at e
        omega
      refine ⟨_, rfl, _, rfl, _, rfl, by rw [S_len]; exact small hls, r, _, rfl, by rw [S_len]; omega, by rw [S_len]; omega, g.rng, fun H2 k g2 k0 k1 => ?_⟩
      rw [S_len] at k1
      obtain ⟨j, rfl⟩ := Int.eq_ofNat_of_zero_le k0
      have hj : j < ls.length := by omega
      have e1 : Txt.slice (S ls) none (some (j : Int)) = S (ls.take j) := slice_to (by omega)
      have e2 : Txt.slice (S ls) (some ((j : Int) + 1)) none = S (ls.drop (j + 1)) := slice_from (a := ls) (i := (j : Int) + 1) (by omega)
      refine ⟨_, rfl, _, rfl, _, rfl, _, _, ls[j], rfl, rfl, by rw [S_len]; exact small hls, atI_nat (List.getElem?_eq_getElem hj), _, _, rfl, rfl, ?_, ?_⟩
      · rw [S_len]
        show fs.length + 1 ≤ sizeLine
        exact small1000 hfs
      refine ⟨_, rfl, _, rfl, _, rfl, _, rfl, by rw [S_len]; exact small hls, _, rfl, _, rfl, _, _, rfl, rfl, _, rfl, _, rfl, by rw [S_len]; exact small hls, _, _, rfl, rfl, ?_, ?_⟩
      · rw [e1, e2, S_len, S_len, List.length_take, List.length_drop]
        exact Nat.le_trans (by omega) (small hls)
      refine ⟨_, _, rfl, ls.take j ++ ls.drop (j + 1), fs ++ [ls[j]], some (.int (0 + (i : Int))), some (.int (j : Int)), ?_, g.trans g2, ?_, ?_⟩
      · rw [e1, e2, S_cat, S_cat]
        rfl
      · refine List.Perm.trans ?_ hp
        have e3 : ls = ls.take j ++ ls[j] :: ls.drop (j + 1) := by
          rw [List.getElem_cons_drop, List.take_append_drop]
        rw [List.append_assoc]
        refine List.Perm.append_left _ ?_
        conv => rhs; rw [e3]
        rw [List.singleton_append]
        exact List.perm_middle.symm
      · rw [List.length_append, List.length_take, List.length_drop]
        omega
    · rintro σ H' ⟨ls, fs, v4, v5, rfl, g, hp, hli⟩
      rw [S_len] at hli
      have e : ls = [] := List.eq_nil_of_length_eq_zero (by omega)
      subst e
      rw [List.append_nil] at hp
      exact ⟨_, rfl, q _ _ g hp⟩
abbrev sWord : Stmt := topS 44
theorem scWord : FnScope ["_law_rng", "_law_signs", "_law_most", "_law_k"]
    ["_law_rng", "_law_signs", "_law_most"] (defScope sWord) :=
  ⟨rfl, rfl, rfl, by decide +kernel, rfl, by decide +kernel, by decide +kernel⟩
theorem ok_word {f fD fP : Addr} {fd fdD fdP : FuncData} (F : Fun K "_law_word" "_law_word" sWord f fd)
    (FD : Fun K "_law_draw" "_law_draw" sDraw fD fdD) (bD : Binds K fdD ["_law_rng", "_law_sides"] [])
    (gD : mg "_law_draw" = some (.ref fD))
    (FP : Fun K "_law_pick" "_law_pick" sPick fP fdP) (bP : Binds K fdP ["_law_rng", "_law_things"] [])
    (gP : mg "_law_pick" = some (.ref fP)) (mi : mg "int" = none) (ml : mg "len" = none)
    (mr : mg "range" = none) :
    FnOk P w K mg base CX0 3 f fd ["_law_rng", "_law_signs", "_law_most"] spWord := by
  have GD : FnOk P w K mg base CX0 1 fD fdD ["_law_rng", "_law_sides"] spDraw := ok_draw FD mi ml
  have GP : FnOk P w K mg base CX0 2 fP fdP ["_law_rng", "_law_things"] (spPick K) := ok_pick FP FD bD gD mi ml
  refine F.ok scWord (fun vs H Q E h => ?_) (fun cdv A outer s H vs Q E hr h => ?_)
  · obtain ⟨r, gs, m, rfl, _⟩ := h
    rfl
  · obtain ⟨r, gs, m, rfl, h0, h1, m0, m1, R, q⟩ := h
    have hr1 : Room 1 _ := hr.mono (by decide)
    refine ⟨_, pss_one (ps_ret (pe_join pe_str (pe_lc (own := [("_law_k", 3)]) (g := gName 3) (tt := tYes) rfl scWord.nd
        (pi_range1 rfl mr (pa_cons (pe_call GD hr1 (by rfl) gD FD.kp bD .nil pass0 (pa_cons (pv 0) (pa_cons (pe_op op_add (pv 2) pe_int) pa_nil))) pa_nil))
        (blkOk_by (N := ["_law_rng", "_law_signs", "_law_most", "_law_k"]) (sc := defScope sWord) (by decide +kernel))
        (fun _ _ _ _ _ => pg_name (i := 3) scWord.nd rfl (Or.inl rfl)) (fun _ _ _ _ _ => pts_nil)
        (fun _ _ _ _ _ => pe_call GP hr (by rfl) gP FP.kp bP .nil pass0 (pa_cons (pv 0) (pa_cons (pv 1) pa_nil)))))), ?_⟩
    refine ⟨⟨_, rfl⟩, _, rfl, _, rfl, _, _, rfl, rfl, r, _, rfl, by omega, by omega, R, fun H1 k g1 k0 k1 => ?_⟩
    obtain ⟨n, rfl⟩ := Int.eq_ofNat_of_zero_le k0
    refine ⟨_, rfl, by omega, by omega, fun D nD => ?_⟩
    obtain ⟨xr, er⟩ := g1.rng.ex
    have nDr : D ≠ r := (ne_of_none er nD).symm
    refine lc_range (lo := 0) (n := (n : Int).toNat)
      (fun i H' => ∃ cs : List Nat, H' D = some (.lst (cs.map fun c => V.str (S [c]))) ∧ (∀ c ∈ cs, c ∈ gs) ∧ cs.length = i ∧ Go r H1 H')
      ⟨[], upd_same, (fun c hc => nomatch hc), rfl, (Go.refl g1.rng).same (same_new nD)⟩ ?_ ?_
    · rintro i H' hi ⟨cs, hD, hc, hn, g⟩
      refine ⟨rfl, _, rfl, _, rfl, r, _, rfl, g.rng, .inr ⟨gs, rfl, h0, h1, fun H2 c g2 hcm => ?_⟩⟩
      refine ⟨_, g2.1 _ _ nDr hD, ?_, ?_⟩
      · rw [List.length_map]
        exact small1000 (by omega)
      · refine ⟨cs ++ [c], ?_, fun x hx => ?_, by rw [List.length_append, hn]; rfl, ?_⟩
        · rw [upd_same, List.map_append]
          rfl
        · rcases List.mem_append.mp hx with h | h
          · exact hc x h
          · rw [List.mem_singleton.mp h]; exact hcm
        · exact (g.trans g2).put nD
    · rintro H' ⟨cs, hD, hc, hn, g⟩
      refine ⟨_, D, cs.map (fun c => S [c]), rfl, rfl, .inl (.inl (.inl ?_)), ?_, ?_⟩
      · rw [hD, List.map_map]
        rfl
      · rw [one_len]
        show cs.length + _ * 0 ≤ _
        omega
      · rw [joinC]
        exact q _ _ (g1.trans g) hc (by omega)
abbrev sIs : Stmt := topS 16
theorem scIs : FnScope ["letters", "turn"] ["letters", "turn"] (defScope sIs) :=
  ⟨rfl, rfl, rfl, by decide +kernel, rfl, by decide +kernel, by decide +kernel⟩
theorem ok_is {f : Addr} {fd : FuncData} (F : Fun K "is_turn" "is_turn" sIs f fd) (ms : mg "sorted" = none) :
    FnOk P w K mg base CX0 1 f fd ["letters", "turn"] spIs := by
  refine F.ok scIs (fun vs H Q E h => ?_) (fun cdv A outer s H vs Q E hr h => ?_)
  · obtain ⟨gs, t, rfl, _⟩ := h
    rfl
  · obtain ⟨gs, t, rfl, l1, l2, c1, c2, q⟩ := h
    refine ⟨_, pss_one (ps_ret (pe_cmpR (op_eqD hr.units) (pe_callB (call_sortedTx rfl) (by rfl) ms (by decide +kernel) (pa_cons (pv 1) pa_nil))
      (pe_callB (call_sortedTx rfl) (by rfl) ms (by decide +kernel) (pa_cons (pv 0) pa_nil)) (nomark _))), ?_⟩
    refine ⟨_, rfl, S t, rfl, l2, fun ys1 p1 hp1 hs1 n1 => ⟨_, rfl, S gs, rfl, l1, fun ys2 p2 hp2 hs2 n2 => ?_⟩⟩
    obtain ⟨ls, rfl, h1⟩ := signs_of (zs := t) hp1
    obtain ⟨ms', rfl, h2⟩ := signs_of (zs := gs) hp2
    have s1 := same_new (o := .lst ((ls.map S).map V.str)) n1
    have s2 := same_new (o := .lst ((ms'.map S).map V.str)) n2
    refine ⟨_, _, .lst (.inl (.inl (s2 _ _ upd_same))) (dp_all ls), .lst (.inl (.inl upd_same)) (dp_all ms'), shp_tx (small_of h1 c2), shp_tx (small_of h2 c1), ?_⟩
    rw [show PyData.eqv (.list (ls.map fun c => PyData.str (S c))) (.list (ms'.map fun c => PyData.str (S c))) = decide (ls = ms') from eqvAll_tx ls ms', signs_eq h1 h2 hs1 hs2]
    exact q _ (s1.trans s2)
abbrev sLTurned : Stmt := topS 45
theorem scLTurned : FnScope ["_law_signs", "_law_my_turn", "_law_shown", "_law_sign"]
    ["_law_signs", "_law_my_turn", "_law_shown"] (defScope sLTurned) :=
  ⟨rfl, rfl, rfl, by decide +kernel, rfl, by decide +kernel, by decide +kernel⟩
theorem ok_lturned {f : Addr} {fd : FuncData} (F : Fun K "_law_turned" "_law_turned" sLTurned f fd) :
    FnOk P w K mg base CX0 1 f fd ["_law_signs", "_law_my_turn", "_law_shown"] spTd := by
  refine F.ok scLTurned (fun vs H Q E h => ?_) (fun cdv A outer s H vs Q E hr h => ?_)
  · obtain ⟨gs, t, xs, rfl, _⟩ := h
    rfl
  · obtain ⟨gs, t, xs, rfl, nd, hg, ht, hx, hm, q⟩ := h
    refine ⟨_, pss_one (ps_ret (pe_join pe_str (pe_lc (own := [("_law_sign", 3)]) (g := gName 3) (tt := tYes) rfl scLTurned.nd
        (pi_str (pv 2))
        (blkOk_by (N := ["_law_signs", "_law_my_turn", "_law_shown", "_law_sign"]) (sc := defScope sLTurned) (by decide +kernel))
        (fun _ _ _ _ _ => pg_name (i := 3) scLTurned.nd rfl (Or.inl rfl)) (fun _ _ _ _ _ => pts_nil)
        (fun _ _ _ _ _ => pe_ix ix_str (pv 1) (pe_m1 PySem.F.slot_str_index PySem.F.type_str_index mt_sindex (pv 0) (pv 3))
          (fun _ _ => rfl))))), ?_⟩
    refine ⟨⟨_, rfl⟩, _, rfl, _, rfl, fun D nD => ?_⟩
    refine lc_it (walk_str (z := S xs)) (fun i H' => H' = upd H D (.lst (((xs.take i).map (tau gs t)).map fun c => V.str (S [c])))) rfl (fun _ _ _ _ => trivial) ?_ ?_
    · rintro i x H' H'' hi rfl ⟨rfl, c, hc, rfl⟩
      have hc2 : xs[i]? = some c := by rw [← List.getElem?_toArray]; exact hc
      have hcm : c ∈ gs := hm c (List.mem_of_getElem? hc2)
      obtain ⟨rest, ho⟩ := occ1 hcm
      refine ⟨rfl, _, rfl, _, rfl, ⟨_, rfl⟩, _, rfl, _, _, _, rest, rfl, rfl, ho, ?_⟩
      refine ⟨_, _, tau gs t c, rfl, rfl, by rw [S_len]; exact small (by omega), atI_nat (tau_at hcm ht), _, upd_same, ?_, ?_⟩
      · rw [List.length_map, List.length_map, List.length_take]
        exact small1000 (by omega)
      · rw [upd_upd, List.take_add_one, hc2, List.map_append, List.map_append]
        rfl
    · rintro H' rfl
      have e : xs.take (S xs).cps.size = xs := List.take_of_length_le (Nat.le_of_eq rfl)
      rw [e]
      refine ⟨_, D, (xs.map (tau gs t)).map (fun c => S [c]), rfl, rfl, .inl (.inl (.inl ?_)), ?_, ?_⟩
      · rw [upd_same]
        simp only [List.map_map]
        rfl
      · rw [one_len, List.length_map]
        show xs.length + _ * 0 ≤ _
        omega
      · rw [joinC]
        exact q _ (same_new nD)
abbrev sLAfter : Stmt := topS 48
theorem scLAfter : FnScope ["_law_signs", "_law_mine", "_law_yours"] ["_law_signs", "_law_mine", "_law_yours"] (defScope sLAfter) :=
  ⟨rfl, rfl, rfl, by decide +kernel, rfl, by decide +kernel, by decide +kernel⟩
theorem ok_lafter {f fT : Addr} {fd fdT : FuncData} (F : Fun K "_law_after" "_law_after" sLAfter f fd)
    (FT : Fun K "_law_turned" "_law_turned" sLTurned fT fdT) (bT : Binds K fdT ["_law_signs", "_law_my_turn", "_law_shown"] [])
    (gT : mg "_law_turned" = some (.ref fT)) :
    FnOk P w K mg base CX0 2 f fd ["_law_signs", "_law_mine", "_law_yours"] spAf := by
  have GT : FnOk P w K mg base CX0 1 fT fdT ["_law_signs", "_law_my_turn", "_law_shown"] spTd := ok_lturned FT
  refine F.ok scLAfter (fun vs H Q E h => ?_) (fun cdv A outer s H vs Q E hr h => ?_)
  · obtain ⟨x, y, z, rfl, _⟩ := h
    rfl
  · obtain ⟨x, y, z, rfl, h⟩ := h
    refine ⟨_, pss_one (ps_ret (pe_call GT hr (by rfl) gT FT.kp bT .nil pass0 (pa_cons (pv 0) (pa_cons (pv 2) (pa_cons (pv 1) pa_nil))))), ?_⟩
    exact ⟨_, rfl, _, rfl, _, rfl, h⟩
abbrev sCheck : Stmt := topS 15
theorem scCheck : FnScope ["letters", "text", "at", "letter"] ["letters", "text"] (defScope sCheck) :=
  ⟨rfl, rfl, rfl, by decide +kernel, rfl, by decide +kernel, by decide +kernel⟩
theorem ok_check {f : Addr} {fd : FuncData} (F : Fun K "check_text" "check_text" sCheck f fd) (me : mg "enumerate" = none) :
    FnOk P w K mg base CX0 1 f fd ["letters", "text"] spCk := by
  refine F.ok scCheck (fun vs H Q E h => ?_) (fun cdv A outer s H vs Q E hr h => ?_)
  · obtain ⟨gs, xs, rfl, _⟩ := h
    rfl
  · obtain ⟨gs, xs, rfl, hm, q⟩ := h
    refine ⟨_, pss_one (ps_for PassesOwn.never rfl (pi_enS (by rfl) me (pa_cons (pv 1) pa_nil))
      (pg_tup rfl (pgs_cons (pg_name (i := 2) scCheck.nd rfl (.inl rfl)) (pgs_cons (pg_name (i := 3) scCheck.nd rfl (.inl rfl)) pgs_nil)))
      (pss_one (ps_if (pt_cmpR op_notIn_sign (pv 3) (pv 0) rfl) pss_never pss_nil))), ?_⟩
    refine ⟨_, rfl, _, rfl, for_it (walkE (z := S xs)) (fun i σ H' => ∃ v2 v3, σ = [some (.str (S gs)), some (.str (S xs)), v2, v3] ∧ Same H H')
      ⟨none, none, rfl, Same.refl _⟩ (fun _ _ _ _ _ => trivial) ?_ ?_⟩
    · rintro i x σ H' H'' hi ⟨v2, v3, rfl, s1⟩ ⟨T, c, rfl, nT, hc, rfl⟩
      have hc2 : xs[i]? = some c := by rw [← List.getElem?_toArray]; exact hc
      have hcm : c ∈ gs := hm c (List.mem_of_getElem? hc2)
      refine ⟨T, _, rfl, .inl (.inl upd_same), rfl, _, _, rfl, _, _, rfl, rfl, ?_⟩
      refine ⟨_, rfl, _, rfl, c, _, rfl, rfl, _, rfl, ?_⟩
      refine iteNS hcm ?_
      exact ⟨_, _, rfl, s1.trans (same_new nT)⟩
    · rintro σ H' ⟨v2, v3, rfl, s1⟩
      exact q _ s1
abbrev sTurned : Stmt := topS 17
theorem scTurned : FnScope ["letters", "turn", "text", "into", "letter"] ["letters", "turn", "text"] (defScope sTurned) :=
  ⟨rfl, rfl, rfl, by decide +kernel, rfl, by decide +kernel, by decide +kernel⟩
theorem ok_turned {f fC : Addr} {fd fdC : FuncData} (F : Fun K "turned" "turned" sTurned f fd)
    (FC : Fun K "check_text" "check_text" sCheck fC fdC) (bC : Binds K fdC ["letters", "text"] []) (gC : mg "check_text" = some (.ref fC))
    (me : mg "enumerate" = none) (md : mg "dict" = none) (mz : mg "zip" = none) :
    FnOk P w K mg base CX0 2 f fd ["letters", "turn", "text"] spTd := by
  have GC : FnOk P w K mg base CX0 1 fC fdC ["letters", "text"] spCk := ok_check FC me
  refine F.ok scTurned (fun vs H Q E h => ?_) (fun cdv A outer s H vs Q E hr h => ?_)
  · obtain ⟨gs, t, xs, rfl, _⟩ := h
    rfl
  · obtain ⟨gs, t, xs, rfl, nd, hg, ht, hx, hm, q⟩ := h
    have hu := hu_of hr
    refine ⟨_, pss_cons (ps_expr (pe_call GC hr (by rfl) gC FC.kp bC .nil pass0 (pa_cons (pv 0) (pa_cons (pv 2) pa_nil))))
      (pss_cons (ps_set (i := 3) scTurned.nd rfl (.inr rfl) (pe_dz (by rfl) md (by rfl) mz (pa_cons (pv 0) (pa_cons (pv 1) pa_nil))))
      (pss_one (ps_ret (pe_join pe_str (pe_lc (own := [("letter", 4)]) (g := gName 4) (tt := tYes) rfl scTurned.nd
        (pi_str (pv 2))
        (blkOk_by (N := ["letters", "turn", "text", "into", "letter"]) (sc := defScope sTurned) (by decide +kernel))
        (fun _ _ _ _ _ => pg_name (i := 4) scTurned.nd rfl (Or.inl rfl)) (fun _ _ _ _ _ => pts_nil)
        (fun _ _ _ _ _ => pe_dget hu (pv 3) (pv 4) (fun _ _ => rfl))))))), ?_⟩
    refine ⟨_, rfl, _, rfl, gs, xs, rfl, hm, fun H1 s1 => ?_⟩
    refine ⟨_, rfl, _, rfl, S gs, S t, rfl, ?_, fun d nd1 => ?_⟩
    · show min gs.length t.length ≤ sizeLine
      exact small (by omega)
    refine ⟨⟨_, rfl⟩, _, rfl, _, rfl, fun D nD => ?_⟩
    have ndD : d ≠ D := fun e => by
      rw [← e, upd_same] at nD
      cases nD
    refine lc_it (walk_str (z := S xs)) (fun i H' => H' = upd (upd H1 d (.dK (mergeK [] (zipS (S gs) (S t))))) D (.lst (((xs.take i).map (tau gs t)).map fun c => V.str (S [c])))) rfl (fun _ _ _ _ => trivial) ?_ ?_
    · rintro i x H' H'' hi rfl ⟨rfl, c, hc, rfl⟩
      have hc2 : xs[i]? = some c := by rw [← List.getElem?_toArray]; exact hc
      have hcm : c ∈ gs := hm c (List.mem_of_getElem? hc2)
      have hget : DGet (upd (upd H1 d (.dK (mergeK [] (zipS (S gs) (S t))))) D (.lst (((xs.take i).map (tau gs t)).map fun c => V.str (S [c])))) d
          (.str (S [c])) (some (.str (S [tau gs t c]))) := by
        rw [← dz_get nd ht hcm]
        exact DGet.k (k := Sum.inr (S [c])) (by rw [upd_ne ndD, upd_same])
      refine ⟨rfl, _, rfl, _, rfl, d, _, rfl, hget, _, upd_same, ?_, ?_⟩
      · rw [List.length_map, List.length_map, List.length_take]
        exact small1000 (by omega)
      · rw [upd_upd, List.take_add_one, hc2, List.map_append, List.map_append]
        rfl
    · rintro H' rfl
      have e : xs.take (S xs).cps.size = xs := List.take_of_length_le (Nat.le_of_eq rfl)
      rw [e]
      refine ⟨_, D, (xs.map (tau gs t)).map (fun c => S [c]), rfl, rfl, .inl (.inl (.inl ?_)), ?_, ?_⟩
      · rw [upd_same]
        simp only [List.map_map]
        rfl
      · rw [one_len, List.length_map]
        show xs.length + _ * 0 ≤ _
        omega
      · rw [joinC]
        exact q _ ((s1.trans (same_new nd1)).trans (same_new nD))
abbrev sSame : Stmt := topS 39
theorem scSame : FnScope ["_law_found", "_law_due", "_law_a", "_law_b"] ["_law_found", "_law_due"] (defScope sSame) :=
  ⟨rfl, rfl, rfl, by decide +kernel, rfl, by decide +kernel, by decide +kernel⟩
theorem same_step {f : Addr} {fd : FuncData} {n : Nat} (F : Fun K "_law_same" "_law_same" sSame f fd) (T : SameT mg)
    (bS : Binds K fd ["_law_found", "_law_due"] []) (gS : mg "_law_same" = some (.ref f))
    (GS : FnOk P w K mg base CX0 n f fd ["_law_found", "_law_due"] (spSm K n)) :
    FnOk P w K mg base CX0 (n + 1) f fd ["_law_found", "_law_due"] (spSm K (n + 1)) := by
  refine F.ok scSame (fun vs H Q E h => ?_) (fun cdv A outer s H vs Q E hr h => ?_)
  · obtain ⟨x, y, rfl, _⟩ := h
    rfl
  · obtain ⟨x, y, rfl, h, q⟩ := h
    refine ⟨_, pss_cons (ps_if (pt_val (pe_callB call_isiT (by rfl) T.isi (by decide +kernel) (pa_cons (pv 1) (pa_cons
          (pe_tup (pa_cons (pe_bltn (v := .ty "list") (u := .type "list") (by rfl) T.list (by decide +kernel) rfl)
            (pa_cons (pe_bltn (v := .ty "tuple") (u := .type "tuple") (by rfl) T.tuple (by decide +kernel) rfl) pa_nil))) pa_nil))))
        (pss_cons (ps_if (PW.pt (pw_or
            (pt_cmpR op_ne (pe_callB call_isi (by rfl) T.isi (by decide +kernel) (pa_cons (pv 0) (pa_cons (pe_bltn (v := .ty "list") (u := .type "list") (by rfl) T.list (by decide +kernel) rfl) pa_nil)))
              (pe_callB call_isi (by rfl) T.isi (by decide +kernel) (pa_cons (pv 1) (pa_cons (pe_bltn (v := .ty "list") (u := .type "list") (by rfl) T.list (by decide +kernel) rfl) pa_nil))) (nomark _))
            (pw_or1 (pt_cmpR op_ne (pe_callB call_isi (by rfl) T.isi (by decide +kernel) (pa_cons (pv 0) (pa_cons (pe_bltn (v := .ty "tuple") (u := .type "tuple") (by rfl) T.tuple (by decide +kernel) rfl) pa_nil)))
              (pe_callB call_isi (by rfl) T.isi (by decide +kernel) (pa_cons (pv 1) (pa_cons (pe_bltn (v := .ty "tuple") (u := .type "tuple") (by rfl) T.tuple (by decide +kernel) rfl) pa_nil))) (nomark _)))))
          pss_never pss_nil)
        (pss_one (ps_ret (pe_and (pe_cmpR op_eq (pe_callB call_len (by rfl) T.len PySem.boot_len (pa_cons (pv 0) pa_nil)) (pe_callB call_len (by rfl) T.len PySem.boot_len (pa_cons (pv 1) pa_nil)) (nomark _))
          (pe_one (pe_callB (cr_all rfl) (by rfl) T.all (by decide +kernel) (pa_cons
            (pe_lc (own := [("_law_a", 2), ("_law_b", 3)]) (g := gTup K 2 (gCons (gName 2) (gCons (gName 3) gNil))) (tt := tYes) rfl scSame.nd
              (pi_zipA (by rfl) T.zip (pa_cons (pv 0) (pa_cons (pv 1) pa_nil)))
              (blkOk_by (N := ["_law_found", "_law_due", "_law_a", "_law_b"]) (sc := defScope sSame) (by decide +kernel))
              (fun _ _ _ _ _ => pg_tup rfl (pgs_cons (pg_name (i := 2) scSame.nd rfl (Or.inl rfl)) (pgs_cons (pg_name (i := 3) scSame.nd rfl (Or.inl rfl)) pgs_nil)))
              (fun _ _ _ _ _ => pts_nil)
              (fun _ _ _ _ _ => pe_call GS hr (by rfl) gS F.kp bS .nil pass0 (pa_cons (pv 2) (pa_cons (pv 3) pa_nil)))) pa_nil)))))))
        pss_nil)
      (pss_cons (ps_if (PW.pt (pw_or (pt_cmpR op_isN (pv 1) pe_non (nomark _)) (pw_or1 (pt_cmpR op_isN (pv 0) pe_non (nomark _)))))
        (pss_one (ps_ret (pe_and (pe_cmpR op_isN (pv 1) pe_non (nomark _)) (pe_one (pe_cmpR op_isN (pv 0) pe_non (nomark _)))))) pss_nil)
      (pss_cons (ps_if (PW.pt (pw_or
            (pt_cmpR op_ne (pe_callB call_isi (by rfl) T.isi (by decide +kernel) (pa_cons (pv 1) (pa_cons (pe_bltn (v := .ty "bool") (u := .type "bool") (by rfl) T.bool (by decide +kernel) rfl) pa_nil)))
              (pe_callB call_isi (by rfl) T.isi (by decide +kernel) (pa_cons (pv 0) (pa_cons (pe_bltn (v := .ty "bool") (u := .type "bool") (by rfl) T.bool (by decide +kernel) rfl) pa_nil))) (nomark _))
            (pw_or1 (pt_cmpR op_ne (pe_callB call_isi (by rfl) T.isi (by decide +kernel) (pa_cons (pv 1) (pa_cons (pe_bltn (v := .ty "int") (u := .type "int") (by rfl) T.int (by decide +kernel) rfl) pa_nil)))
              (pe_callB call_isi (by rfl) T.isi (by decide +kernel) (pa_cons (pv 0) (pa_cons (pe_bltn (v := .ty "int") (u := .type "int") (by rfl) T.int (by decide +kernel) rfl) pa_nil))) (nomark _)))))
          pss_never pss_nil)
      (pss_one (ps_ret (pe_and (pe_cmpR op_eq (pe_callB call_isi (by rfl) T.isi (by decide +kernel) (pa_cons (pv 1) (pa_cons (pe_bltn (v := .ty "str") (u := .type "str") (by rfl) T.str (by decide +kernel) rfl) pa_nil)))
              (pe_callB call_isi (by rfl) T.isi (by decide +kernel) (pa_cons (pv 0) (pa_cons (pe_bltn (v := .ty "str") (u := .type "str") (by rfl) T.str (by decide +kernel) rfl) pa_nil))) (nomark _))
        (pe_one (pe_cmpR op_eq (pv 0) (pv 1) (nomark _)))))))), ?_⟩
    rcases h with ⟨rfl, hf⟩ | ⟨a, b, xs, ys, rfl, rfl, hab, l1, l2, k⟩
    · obtain ⟨t, hty, k1, k2, ⟨b1, k3⟩, ⟨b2, k4⟩, ⟨b3, k5⟩⟩ := flat_ty (K := K) hf
      refine ⟨_, rfl, (by show 2 ≤ sizeLine; decide), fun tp ntp => ?_⟩
      have s1 := same_new (o := .tup [.ty "list", .ty "tuple"]) ntp
      refine ⟨x, tp, _, .type t, [.type "list", .type "tuple"], false, rfl, upd_same, .cons (.ty _) (.cons (.ty _) .nil), hty _, kit2 k1 k2, false, rfl, iteF ?_⟩
      by_cases hx : x = .non
      · subst hx
        refine ⟨_, rfl, rfl, _, rfl, ?_⟩
        rw [decide_eq_true rfl]
        refine ⟨_, rfl, rfl, true, by rw [decide_eq_true rfl], iteT ⟨_, rfl, rfl, ?_⟩⟩
        rw [decide_eq_true rfl]
        exact q _ s1
      · refine ⟨_, rfl, rfl, _, rfl, ?_⟩
        rw [decide_eq_false hx]
        refine ⟨_, rfl, rfl, _, rfl, ?_⟩
        rw [decide_eq_false hx]
        refine ⟨_, rfl, x, .ty "bool", .type t, .type "bool", b1, rfl, .ty _, hty _, kit_ty k3, _, rfl, x, .ty "bool", .type t, .type "bool", b1, rfl, .ty _, hty _, kit_ty k3, rfl, _, rfl, ?_⟩
        refine iteNS rfl ?_
        refine ⟨_, rfl, x, .ty "int", .type t, .type "int", b2, rfl, .ty _, hty _, kit_ty k4, _, rfl, x, .ty "int", .type t, .type "int", b2, rfl, .ty _, hty _, kit_ty k4, rfl, _, rfl, ?_⟩
        refine iteNS rfl ?_
        refine ⟨_, rfl, x, .ty "str", .type t, .type "str", b3, rfl, .ty _, hty _, kit_ty k5, _, rfl, x, .ty "str", .type t, .type "str", b3, rfl, .ty _, hty _, kit_ty k5, rfl, true, by rw [decide_eq_true rfl], iteT ?_⟩
        refine ⟨_, rfl, _, rfl, ?_, ?_⟩
        · cases x with
          | non => exact absurd rfl hx
          | bl b => rfl
          | int i => rfl
          | str z => rfl
          | _ => exact hf.elim
        · rw [decide_eq_true rfl]
          exact q _ s1
    · refine ⟨_, rfl, (by show 2 ≤ sizeLine; decide), fun tp ntp => ?_⟩
      have s1 := same_new (o := .tup [.ty "list", .ty "tuple"]) ntp
      have turn : ∀ (D : Addr) (nD : (upd H tp (.tup [.ty "list", .ty "tuple"])) D = none) (i : Nat) (x : V) (H' H'' : Hp),
          (Same (upd H tp (.tup [.ty "list", .ty "tuple"])) H' ∧ H' D = some (.lst ((List.replicate i true).map V.bl))) → i < xs.length →
          YPair (fun i => xs[i]?) (fun i => ys[i]?) i H' x H'' →
          gTup K 2 (gCons (gName 2) (gCons (gName 3) gNil)) x [some (.ref a), some (.ref b), none, none] H'' fun σ2 H2 =>
            wipe σ2 [2, 3] = wipe [some (.ref a), some (.ref b), none, none] [2, 3] ∧ tYes σ2 H2 fun c H3 =>
            if c = true then tCall (spSm K n) [] E0 (tCons (tVar 2) (tCons (tVar 3) tNil)) σ2 H3 fun y H4 => ∃ acc, H4 D = some (.lst acc) ∧ acc.length < sizeLine ∧
              (Same (upd H tp (.tup [.ty "list", .ty "tuple"])) (upd H4 D (.lst (acc ++ [y]))) ∧ (upd H4 D (.lst (acc ++ [y]))) D = some (.lst ((List.replicate (i + 1) true).map V.bl)))
            else (Same (upd H tp (.tup [.ty "list", .ty "tuple"])) H3 ∧ H3 D = some (.lst ((List.replicate (i + 1) true).map V.bl))) := by
        rintro D nD i x H' H'' ⟨sm, hD⟩ hi ⟨T, u, v, rfl, nT, rfl, hu, hv⟩
        have s2 := same_new (o := .tup [u, v]) nT
        refine ⟨T, _, rfl, .inl (.inl upd_same), rfl, _, _, rfl, _, _, rfl, rfl, rfl, ?_⟩
        refine ⟨_, rfl, _, rfl, u, v, rfl, (k i u v hu hv).same ((s1.trans sm).trans s2), fun H4 s4 => ?_⟩
        refine ⟨_, s4 _ _ (s2 _ _ hD), ?_, fun b o e => ?_, ?_⟩
        · rw [List.length_map, List.length_replicate]
          exact small1000 (by omega)
        · rw [upd_ne (ne_of_none e nD)]
          exact s4 _ _ (s2 _ _ (sm _ _ e))
        · rw [upd_same, List.replicate_succ', List.map_append]
          rfl
      have fin : ∀ (D : Addr) (H' : Hp), (Same (upd H tp (.tup [.ty "list", .ty "tuple"])) H' ∧ H' D = some (.lst ((List.replicate xs.length true).map V.bl))) →
          rAll K [.ref D] H' fun v H' => Q v H' := by
        rintro D H' ⟨sm, hD⟩
        refine ⟨D, _, rfl, .inl (.inl hD), ?_⟩
        have e : (List.replicate xs.length true).all id = true := by
          rw [List.all_eq_true]
          intro c hc
          rw [List.eq_of_mem_replicate hc]
          rfl
        rw [e]
        exact q _ (s1.trans sm)
      rcases hab with ⟨ha, hb⟩ | ⟨ha, hb⟩
      · have ha := s1.seq ha
        have hb := s1.seq hb
        refine ⟨.ref b, tp, _, .type "list", [.type "list", .type "tuple"], true, rfl, upd_same, .cons (.ty _) (.cons (.ty _) .nil), tyL hb, kit2 (r := true) (s := false) (by decide +kernel) (by decide +kernel), true, rfl, iteT ?_⟩
        refine ⟨_, rfl, .ref a, .ty "list", .type "list", .type "list", true, rfl, .ty _, tyL ha, kit_ty (by decide +kernel), _, rfl, .ref b, .ty "list", .type "list", .type "list", true, rfl, .ty _, tyL hb, kit_ty (by decide +kernel), rfl, _, rfl, ?_⟩
        refine iteNS rfl ?_
        refine ⟨_, rfl, .ref a, .ty "tuple", .type "list", .type "tuple", false, rfl, .ty _, tyL ha, kit_ty (by decide +kernel), _, rfl, .ref b, .ty "tuple", .type "list", .type "tuple", false, rfl, .ty _, tyL hb, kit_ty (by decide +kernel), rfl, _, rfl, ?_⟩
        refine iteNS rfl ?_
        refine ⟨_, rfl, _, xs.length, rfl, .inl ⟨_, ha, rfl⟩, _, rfl, _, xs.length, rfl, .inl ⟨_, hb, l2⟩, rfl, true, by rw [decide_eq_true rfl], iteT ?_⟩
        refine ⟨_, rfl, _, rfl, a, b, xs, ys, rfl, .inl ⟨ha, hb, fun D nD => ?_⟩⟩
        refine lc_it (walk_zip (K := K) (a := a) (b := b) (xs := xs) (ys := ys) (n := xs.length) (by omega))
          (fun i H' => Same (upd H tp (.tup [.ty "list", .ty "tuple"])) H' ∧ H' D = some (.lst ((List.replicate i true).map V.bl)))
          ⟨same_new nD, upd_same⟩ (fun i H' _ ⟨sm, _⟩ => ⟨sm.seq ha, sm.seq hb⟩) (fun i x H' H'' hi p y => turn D nD i x H' H'' p hi y) (fun H' p => fin D H' p)
      · have ha := same_t s1 ha
        have hb := same_t s1 hb
        refine ⟨.ref b, tp, _, .type "tuple", [.type "list", .type "tuple"], true, rfl, upd_same, .cons (.ty _) (.cons (.ty _) .nil), tyT hb, kit2 (r := false) (s := true) (by decide +kernel) (by decide +kernel), true, rfl, iteT ?_⟩
        refine ⟨_, rfl, .ref a, .ty "list", .type "tuple", .type "list", false, rfl, .ty _, tyT ha, kit_ty (by decide +kernel), _, rfl, .ref b, .ty "list", .type "tuple", .type "list", false, rfl, .ty _, tyT hb, kit_ty (by decide +kernel), rfl, _, rfl, ?_⟩
        refine iteNS rfl ?_
        refine ⟨_, rfl, .ref a, .ty "tuple", .type "tuple", .type "tuple", true, rfl, .ty _, tyT ha, kit_ty (by decide +kernel), _, rfl, .ref b, .ty "tuple", .type "tuple", .type "tuple", true, rfl, .ty _, tyT hb, kit_ty (by decide +kernel), rfl, _, rfl, ?_⟩
        refine iteNS rfl ?_
        refine ⟨_, rfl, _, xs.length, rfl, .inr ⟨_, ha, rfl⟩, _, rfl, _, xs.length, rfl, .inr ⟨_, hb, l2⟩, rfl, true, by rw [decide_eq_true rfl], iteT ?_⟩
        refine ⟨_, rfl, _, rfl, a, b, xs, ys, rfl, .inr ⟨ha, hb, fun D nD => ?_⟩⟩
        refine lc_it (walk_zT (K := K) (a := a) (b := b) (xs := xs) (ys := ys) (n := xs.length) (by omega))
          (fun i H' => Same (upd H tp (.tup [.ty "list", .ty "tuple"])) H' ∧ H' D = some (.lst ((List.replicate i true).map V.bl)))
          ⟨same_new nD, upd_same⟩ (fun i H' _ ⟨sm, _⟩ => ⟨same_t sm ha, same_t sm hb⟩) (fun i x H' H'' hi p y => turn D nD i x H' H'' p hi y) (fun H' p => fin D H' p)

theorem ok_same {f : Addr} {fd : FuncData} (F : Fun K "_law_same" "_law_same" sSame f fd) (T : SameT mg)
    (bS : Binds K fd ["_law_found", "_law_due"] []) (gS : mg "_law_same" = some (.ref f)) :
    ∀ n, FnOk P w K mg base CX0 n f fd ["_law_found", "_law_due"] (spSm K n)
  | 0 => ⟨fun vs H Q E h => (let ⟨_, _, _, h, _⟩ := h; h.elim), fun A outer s H args us vs Q E _ _ _ _ h => (let ⟨_, _, _, h, _⟩ := h; h.elim)⟩
  | n + 1 => same_step F T bS gS (ok_same F T bS gS n)
abbrev sField : Stmt := topS 40
theorem scField : FnScope ["_law_e"] ["_law_e"] (defScope sField) :=
  ⟨rfl, rfl, rfl, by decide +kernel, rfl, by decide +kernel, by decide +kernel⟩
theorem ok_field {f : Addr} {fd : FuncData} (F : Fun K "_law_field" "_law_field" sField f fd) :
    FnP P w K mg base 1 f fd ["_law_e"] (spFldN K) := by
  refine fn_ofP F scField (fun a cls d vs H Q E h => ?_) (fun cdv A outer s H vs Q a oe cls d hz hf hr h => ?_)
  · obtain ⟨code, v, rfl, _⟩ := h
    rfl
  · obtain ⟨code, v, rfl, ⟨C, dd, fs, rfl, rfl, hd, T, nc, lc, h1, h0⟩, q⟩ := h
    have hp : (a, oe) ∈ (L2H.cxH CX0 P w K mg base ["_law_e"] "_law_field" (defScope sField) f cdv A outer s H E0 (a, oe)).pn := List.mem_singleton.mpr rfl
    refine ⟨_, pss_cons (ps_if (pt_cmpR op_in_seq (pe_xg hp hz hf (pv 0)) (pe_tup (pa_cons pe_str (pa_cons pe_str pa_nil))) (by rfl)) (pss_one (ps_ret (pe_xg hp hz hf (pv 0)))) pss_nil)
      (pss_cons (ps_if (pt_cmpR op_in_seq (pe_xg hp hz hf (pv 0)) (pe_tup (pa_cons pe_str (pa_cons pe_str (pa_cons pe_str pa_nil)))) (by rfl)) (pss_one (ps_ret (pe_xg hp hz hf (pv 0)))) pss_nil)
      (pss_cons (ps_if (pt_cmpR op_in_seq (pe_xg hp hz hf (pv 0)) (pe_tup (pa_cons pe_str (pa_cons pe_str (pa_cons pe_str (pa_cons pe_str (pa_cons pe_str (pa_cons pe_str pa_nil))))))) (by rfl)) (pss_one (ps_ret (pe_xg hp hz hf (pv 0)))) pss_nil)
      (pss_cons (ps_if (pt_cmpR op_in_seq (pe_xg hp hz hf (pv 0)) (pe_tup (pa_cons pe_str (pa_cons pe_str pa_nil))) (by rfl)) (pss_one (ps_ret (pe_xg hp hz hf (pv 0)))) pss_nil)
      (pss_one (ps_ret (pe_ifExp (pt_cmpR op_eq (pe_xg hp hz hf (pv 0)) pe_str (nomark _)) (pe_xg hp hz hf (pv 0)) pe_non)))))), ?_⟩
    have s0 := Same.refl H
    refine ⟨_, rfl, rfl, C, dd, fs, _, rfl, T, nc, rfl, s0 _ _ hd, lc, (by show 2 ≤ sizeLine; decide), fun t1 n1 => ?_⟩
    have s1 := s0.trans (same_new (o := .tup fldA) n1)
    refine ⟨t1, fldA, rfl, .inr (.inl (.inl upd_same)), rfl, rfl, ?_⟩
    by_cases b1 : inV (.str code) fldA = true
    · obtain ⟨np, lp⟩ := h1 "position" (by unfold fldOf; rw [if_pos b1])
      exact ⟨true, congrArg V.bl b1, iteT ⟨_, rfl, rfl, C, dd, fs, _, rfl, T, np, rfl, s1 _ _ hd, lp, q _ s1⟩⟩
    refine ⟨false, congrArg V.bl (Bool.eq_false_iff.mpr b1), iteF ?_⟩
    refine ⟨_, rfl, rfl, C, dd, fs, _, rfl, T, nc, rfl, s1 _ _ hd, lc, (by show 3 ≤ sizeLine; decide), fun t2 n2 => ?_⟩
    have s2 := s1.trans (same_new (o := .tup fldB) n2)
    refine ⟨t2, fldB, rfl, .inr (.inl (.inl upd_same)), rfl, rfl, ?_⟩
    by_cases b2 : inV (.str code) fldB = true
    · obtain ⟨np, lp⟩ := h1 "limit" (by unfold fldOf; rw [if_neg b1, if_pos b2])
      exact ⟨true, congrArg V.bl b2, iteT ⟨_, rfl, rfl, C, dd, fs, _, rfl, T, np, rfl, s2 _ _ hd, lp, q _ s2⟩⟩
    refine ⟨false, congrArg V.bl (Bool.eq_false_iff.mpr b2), iteF ?_⟩
    refine ⟨_, rfl, rfl, C, dd, fs, _, rfl, T, nc, rfl, s2 _ _ hd, lc, (by show 6 ≤ sizeLine; decide), fun t3 n3 => ?_⟩
    have s3 := s2.trans (same_new (o := .tup fldC) n3)
    refine ⟨t3, fldC, rfl, .inr (.inl (.inl upd_same)), rfl, rfl, ?_⟩
    by_cases b3 : inV (.str code) fldC = true
    · obtain ⟨np, lp⟩ := h1 "name" (by unfold fldOf; rw [if_neg b1, if_neg b2, if_pos b3])
      exact ⟨true, congrArg V.bl b3, iteT ⟨_, rfl, rfl, C, dd, fs, _, rfl, T, np, rfl, s3 _ _ hd, lp, q _ s3⟩⟩
    refine ⟨false, congrArg V.bl (Bool.eq_false_iff.mpr b3), iteF ?_⟩
    refine ⟨_, rfl, rfl, C, dd, fs, _, rfl, T, nc, rfl, s3 _ _ hd, lc, (by show 2 ≤ sizeLine; decide), fun t4 n4 => ?_⟩
    have s4 := s3.trans (same_new (o := .tup fldD) n4)
    refine ⟨t4, fldD, rfl, .inr (.inl (.inl upd_same)), rfl, rfl, ?_⟩
    by_cases b4 : inV (.str code) fldD = true
    · obtain ⟨np, lp⟩ := h1 "index" (by unfold fldOf; rw [if_neg b1, if_neg b2, if_neg b3, if_pos b4])
      exact ⟨true, congrArg V.bl b4, iteT ⟨_, rfl, rfl, C, dd, fs, _, rfl, T, np, rfl, s4 _ _ hd, lp, q _ s4⟩⟩
    refine ⟨false, congrArg V.bl (Bool.eq_false_iff.mpr b4), iteF ?_⟩
    refine ⟨_, rfl, rfl, C, dd, fs, _, rfl, T, nc, rfl, s4 _ _ hd, lc, rfl, ?_⟩
    by_cases b5 : decide (V.str code = V.str (Str.ofString "InvalidMachine")) = true
    · obtain ⟨np, lp⟩ := h1 "room" (by unfold fldOf; rw [if_neg b1, if_neg b2, if_neg b3, if_neg b4, if_pos b5])
      exact ⟨true, congrArg V.bl b5, iteT ⟨_, rfl, rfl, C, dd, fs, _, rfl, T, np, rfl, s4 _ _ hd, lp, q _ s4⟩⟩
    · have e := h0 (by unfold fldOf; rw [if_neg b1, if_neg b2, if_neg b3, if_neg b4, if_neg b5])
      subst e
      exact ⟨false, congrArg V.bl (Bool.eq_false_iff.mpr b5), iteF (q _ s4)⟩
abbrev sTry : Stmt := topS 41
theorem scTry : FnScope ["_law_ask", "_law_e"] ["_law_ask"] (defScope sTry) :=
  ⟨rfl, rfl, rfl, by decide +kernel, rfl, by decide +kernel, by decide +kernel⟩
theorem try_gives {X : Cx} {g fF CF CM : Addr} {cdg : Value} {q : Str} {fdF : FuncData} (mF : X.mg "FillError" = some (.ref CF)) (mM : X.mg "Missing" = some (.ref CM))
    (FP : FnP X.prog X.w X.K X.mg X.base 1 fF fdF ["_law_e"] (spFldN X.K)) (gF : X.mg "_law_field" = some (.ref fF)) (kF : PySem.W.keepIn X.K (.ref fF) = true)
    (bF : Binds X.K fdF ["_law_e"] []) (hr : Room 2 X.A) :
    LamX.GivesTo X ["_law_ask", "_law_e"] "_law_try" (defScope sTry) g cdg (defBody sTry) "_law_ask" q (TryN X.K CF CM) := by
  intro f c' s H Q tl act hc h
  have hrH : L2H.RoomH 1 (X.A.deeper (envOfC "_law_try" (defScope sTry) s.heap.objs.size g cdg)) := L2H.roomH_of (hr.deeper _)
  refine ⟨_, pss_one (ps_two (X := (cxOf C8.CX0 X.prog X.w X.K X.mg X.base ["_law_ask", "_law_e"] "_law_try" (defScope sTry) g cdg X.A X.stack s H C8.E0).nox) (c1 := .ref CF) (c2 := .ref CM) (i := 1)
      (tb := fun W D σ H => ∃ Ech : XK, (∀ cls d σ' H', Ech cls d H' → W cls d σ' H') ∧ σ[0]? = some (some (.ref f)) ∧ H c' = some (LamX.CodeO c' q) ∧
        tl Ech H (fun v H1 => 2 ≤ sizeLine ∧ ∀ t, H1 t = none → D.rt (.ref t) (upd H1 t (.tup [.str (Str.ofString "value"), v]))))
      (ts := fun a cls d => tRet (tTup (tCons (tXg X.K a cls d "code" (tVar 1)) (tCons (fun σ H Q => tCons (tVar 1) tNil σ H fun vs H1 => spFldN X.K a cls d vs H1 Q E0) tNil))))
      rfl rfl scTry.nd rfl rfl (by rfl) mF (by decide) (by rfl) mM (by decide)
      (fun W pn xe tk _ => ?_)
      (fun a oe cls d pn hz hf => pss_one (ps_ret (pe_tup (pa_cons (pe_xg (X := (cxOf C8.CX0 X.prog X.w X.K X.mg X.base ["_law_ask", "_law_e"] "_law_try" (defScope sTry) g cdg X.A X.stack s H C8.E0).nox.suite a ((a, oe) :: pn)) (List.mem_cons_self ..) hz hf (pv 1))
        (pa_cons (pe_callP (X := (cxOf C8.CX0 X.prog X.w X.K X.mg X.base ["_law_ask", "_law_e"] "_law_try" (defScope sTry) g cdg X.A X.stack s H C8.E0).nox.suite a ((a, oe) :: pn)) (List.mem_cons_self ..) hz hf FP ⟨hrH.dp, hrH.un⟩ (by rfl) gF kF bF (pa_cons (pv 1) pa_nil)) pa_nil)))))), ?_⟩
  · refine ⟨fun pins s' σ H' D I h' => ?_⟩
    obtain ⟨Ech, hW, h1, h2, h3⟩ := h'
    refine (pss_one (ps_ret (pe_tup (pa_cons pe_str (pa_cons (act W pn xe Ech _ _ tk hW) pa_nil))))).run pins s' σ H' D I ⟨h1, h2, ?_⟩
    exact h3
  · refine ⟨_, fun cls d σ' H' hE => ?_, rfl, hc, h⟩
    obtain ⟨e1, code, v, ER, q⟩ := hE
    refine ⟨e1, fun a na hlen => ?_⟩
    have h1 : (σ'.set 1 (some (.ref a)))[1]? = some (some (.ref a)) := List.getElem?_set_self (by rw [hlen]; show 1 < 2; decide)
    obtain ⟨C, dd, fs, rfl, rfl, hd, T, nc, lc, hv⟩ := id ER
    refine ⟨_, h1, rfl, C, dd, fs, _, rfl, T, nc, rfl, hd, lc, _, h1, code, v, rfl, ER, fun H2 s2 => ?_⟩
    exact ⟨(by show 2 ≤ sizeLine; decide), fun t nt => q _ t s2 nt⟩
abbrev sInitIL : Stmt := inClass (topS 3) 0
theorem scInitIL : FnScope ["self"] ["self"] (defScope sInitIL) := ⟨rfl, rfl, rfl, by decide +kernel, rfl, by decide +kernel, by decide +kernel⟩
theorem ok_initIL {f C : Addr} {fd : FuncData} (F : Fun K "__init__" "InvalidLetters.__init__" sInitIL f fd) (T : ErrC K mg "InvalidLetters" C) :
    FnOk P w K mg base CX0 1 f fd ["self"] (spI0 K C "InvalidLetters") := by
  refine F.ok scInitIL (fun vs H Q E h => ?_) (fun cdv A outer s H vs Q E hr h => ?_)
  · obtain ⟨a, rfl, _⟩ := h
    rfl
  · obtain ⟨a, rfl, ha, q⟩ := h
    refine ⟨_, pss_one (ps_ost (pv 0) pe_str), ?_⟩
    exact ⟨_, rfl, a, C, rfl, T.ox, T.nc, .inl ⟨ha, fun dx n ne => q dx n ne⟩⟩
abbrev sInitUL : Stmt := inClass (topS 4) 0
theorem scInitUL : FnScope ["self", "position"] ["self", "position"] (defScope sInitUL) := ⟨rfl, rfl, rfl, by decide +kernel, rfl, by decide +kernel, by decide +kernel⟩
theorem ok_initUL {f C : Addr} {fd : FuncData} (F : Fun K "__init__" "UnknownLetter.__init__" sInitUL f fd) (T : ErrC K mg "UnknownLetter" C) :
    FnOk P w K mg base CX0 1 f fd ["self", "position"] (spI1 K C "UnknownLetter") := by
  refine F.ok scInitUL (fun vs H Q E h => ?_) (fun cdv A outer s H vs Q E hr h => ?_)
  · obtain ⟨a, v, rfl, _⟩ := h
    rfl
  · obtain ⟨a, v, rfl, ha, q⟩ := h
    refine ⟨_, pss_cons (ps_ost (pv 0) pe_str) (pss_one (ps_ost (pv 0) (pv 1))), ?_⟩
    refine ⟨_, rfl, a, C, rfl, T.ox, T.nc, .inl ⟨ha, fun dx n ne => ?_⟩⟩
    refine ⟨_, rfl, _, rfl, a, C, rfl, T.ox, T.np, .inr ⟨dx, _, upd_same, by rw [upd_ne ne, upd_same], by decide, q dx n ne⟩⟩
abbrev sInitNT : Stmt := inClass (topS 7) 0
theorem scInitNT : FnScope ["self"] ["self"] (defScope sInitNT) := ⟨rfl, rfl, rfl, by decide +kernel, rfl, by decide +kernel, by decide +kernel⟩
theorem ok_initNT {f C : Addr} {fd : FuncData} (F : Fun K "__init__" "NoTemplate.__init__" sInitNT f fd) (T : ErrC K mg "NoTemplate" C) :
    FnOk P w K mg base CX0 1 f fd ["self"] (spI0 K C "NoTemplate") := by
  refine F.ok scInitNT (fun vs H Q E h => ?_) (fun cdv A outer s H vs Q E hr h => ?_)
  · obtain ⟨a, rfl, _⟩ := h
    rfl
  · obtain ⟨a, rfl, ha, q⟩ := h
    refine ⟨_, pss_one (ps_ost (pv 0) pe_str), ?_⟩
    exact ⟨_, rfl, a, C, rfl, T.ox, T.nc, .inl ⟨ha, fun dx n ne => q dx n ne⟩⟩
abbrev sCheckL : Stmt := topS 13
theorem scCheckL : FnScope ["letters", "at", "letter"] ["letters"] (defScope sCheckL) :=
  ⟨rfl, rfl, rfl, by decide +kernel, rfl, by decide +kernel, by decide +kernel⟩
theorem ok_checkL {f fI C : Addr} {fd fdI : FuncData} (F : Fun K "check_letters" "check_letters" sCheckL f fd) (T : ErrC K mg "InvalidLetters" C)
    (FI : Fun K "__init__" "InvalidLetters.__init__" sInitIL fI fdI) (bI : Binds K fdI ["self"] []) (iC : PySem.W.findIn K (.ref C) "__init__" = some (some (.ref fI))) (tI : PySem.W.typeIn K (.ref fI) = some (.type "function"))
    (me : mg "enumerate" = none) (ml : mg "len" = none) (mL : ∃ t, mg "LEAST_LETTERS" = some (.int 2 t)) (mM : ∃ t, mg "MOST_LETTERS" = some (.int 4 t)) (mA : ∃ t, mg "LOWERCASE" = some (.str "abcdefghijklmnopqrstuvwxyz" t)) :
    FnOk P w K mg base (L2.CX P w) 3 f fd ["letters"] (spCL C) := by
  have GI : FnOk P w K mg base CX0 1 fI fdI ["self"] (spI0 K C "InvalidLetters") := ok_initIL FI T
  obtain ⟨tL, mL⟩ := mL
  obtain ⟨tM, mM⟩ := mM
  obtain ⟨tA, mA⟩ := mA
  refine F.okX scCheckL (fun vs H Q E h => ?_) (fun cdv A outer s H vs Q E hr h => ?_)
  · obtain ⟨cs, rfl, _⟩ := h
    rfl
  · obtain ⟨cs, rfl, hl, qv, qe⟩ := h
    refine ⟨_, pss_cons (ps_if (pt_not (pt_chain op_le op_le (pe_glob (v := .int 2) (by rfl) mL ⟨_, rfl⟩) (pe_callB call_len_str (by rfl) ml PySem.boot_len (pa_cons (pv 0) pa_nil)) (pe_glob (v := .int 4) (by rfl) mM ⟨_, rfl⟩)))
        (pss_one (ps_raise rfl (takes_of rfl rfl rfl rfl) (pmk0 T.ox iC tI GI hr bI pass0 (by rfl) T.gl))) pss_nil)
      (pss_one (ps_for (passes_of rfl) rfl (pi_enS (by rfl) me (pa_cons (pv 0) pa_nil))
        (pg_tup rfl (pgs_cons (pg_name (i := 1) scCheckL.nd rfl (.inl rfl)) (pgs_cons (pg_name (i := 2) scCheckL.nd rfl (.inl rfl)) pgs_nil)))
        (pss_one (ps_if (PW.pt (pw_or (pt_cmpR op_notIn_sign (pv 2) (pe_glob (v := .str (Str.ofString "abcdefghijklmnopqrstuvwxyz")) (by rfl) mA ⟨_, rfl⟩) rfl) (pw_or1 (pt_cmpR op_in_sign (pv 2) (pe_slice C8.sl_txt (pv 0) po_none (po_some (pv 1))) rfl))))
          (pss_one (ps_raise rfl (takes_of rfl rfl rfl rfl) (pmk0 T.ox iC tI GI hr bI pass0 (by rfl) T.gl))) pss_nil)))), ?_⟩
    have hz : (S cs).length ≤ sizeLine := by rw [S_len]; exact small hl
    -- a raise of it
    have bad : ∀ (H1 : Hp), Same H H1 → ¬ Valid cs → tMkO C (spI0 K C "InvalidLetters") [] tNil [] H1 fun cls d H' => E cls d H' := by
      intro H1 s1 hv
      refine ⟨Nat.zero_le _, fun a na => ⟨a, rfl, upd_same, fun dx nd ne => ⟨rfl, dx, _, upd_same, by rw [upd_ne ne, upd_same], ?_, ?_⟩⟩⟩
      · exact (after0 (C := C) (fs := []) na nd ne).1
      · exact qe hv _ _ (s1.trans (after0 na nd ne).2) upd_same
    have hbs : ((S cs).length : Int) = (cs.length : Int) := by rw [S_len]
    refine ⟨_, rfl, _, rfl, hz, _, _, rfl, rfl, _, rfl, ?_⟩
    rw [hbs]
    refine ite2 (fun h2 => ?_) (fun h2 => ?_)
    rotate_left
    · refine ⟨false, rfl, iteT ?_⟩
      refine bad _ (Same.refl _) fun v => h2 (decide_eq_true ?_)
      have := v.lo
      omega
    refine ⟨_, _, rfl, rfl, _, rfl, ?_⟩
    have hlo : 2 ≤ cs.length := by
      have := of_decide_eq_true h2
      omega
    by_cases h4 : cs.length ≤ 4
    rotate_left
    · have e : decide ((cs.length : Int) ≤ 4) = false := decide_eq_false (by omega)
      rw [e]
      exact iteT (bad _ (Same.refl _) fun v => h4 v.hi)
    have e : decide ((cs.length : Int) ≤ 4) = true := decide_eq_true (by omega)
    rw [e]
    refine iteF ?_
    refine ⟨_, rfl, _, rfl, for_it (walkE (z := S cs)) (fun i σ H' => ∃ v1 v2, σ = [some (.str (S cs)), v1, v2] ∧ Same H H' ∧ (∀ c ∈ cs.take i, 97 ≤ c ∧ c ≤ 122) ∧ (cs.take i).Nodup)
      ⟨none, none, rfl, Same.refl _, (fun c hc => by rw [List.take_zero] at hc; cases hc), by rw [List.take_zero]; exact List.Pairwise.nil⟩ (fun _ _ _ _ _ => trivial) ?_ ?_⟩
    · rintro i x σ H' H'' hi ⟨v1, v2, rfl, s1, haz, hnd⟩ ⟨T, c, rfl, nT, hc, rfl⟩
      have hc2 : cs[i]? = some c := by rw [← List.getElem?_toArray]; exact hc
      have s2 := s1.trans (same_new (o := .tup [.int (i : Nat), .str ⟨#[c]⟩]) nT)
      refine ⟨T, _, rfl, .inl (.inl upd_same), rfl, _, _, rfl, _, _, rfl, rfl, ?_⟩
      refine ⟨_, rfl, c, _, rfl, rfl, _, rfl, ?_⟩
      have hcm : c ∈ cs := List.mem_of_getElem? hc2
      have hil : i < cs.length := (List.getElem?_eq_some_iff.mp hc2).1
      by_cases hl2 : 97 ≤ c ∧ c ≤ 122
      rotate_left
      · have e : (!decide (c ∈ (Str.ofString "abcdefghijklmnopqrstuvwxyz").cps.toList)) = true := by
          rw [az]
          show (!decide (c ∈ List.range' 97 26)) = true
          rw [decide_eq_false fun h => hl2 (by have := List.mem_range'.mp h; omega)]
          rfl
        rw [e]
        refine iteT (iteT ?_)
        exact bad _ s2 fun v => hl2 (v.az c hcm)
      have e : (!decide (c ∈ (Str.ofString "abcdefghijklmnopqrstuvwxyz").cps.toList)) = false := by
        rw [az]
        show (!decide (c ∈ List.range' 97 26)) = false
        rw [decide_eq_true (List.mem_range'.mpr ⟨c - 97, by omega, by omega⟩)]
        rfl
      rw [e]
      refine ⟨_, rfl, _, rfl, _, rfl, _, rfl, _, rfl, hz, c, _, rfl, rfl, _, rfl, ?_⟩
      rw [slice_to (a := cs) (i := ((i : Nat) : Int)) (by omega)]
      show (if decide (c ∈ cs.take (((i : Nat) : Int).toNat)) = true then _ else _)
      rw [Int.toNat_natCast]
      have ht : cs.take (i + 1) = cs.take i ++ [c] := by rw [List.take_add_one, hc2]; rfl
      refine ite2 (fun hin => ?_) (fun hin => ?_)
      · refine bad _ s2 fun v => ?_
        have nd2 : (cs.take i ++ [c]).Nodup := by
          rw [← ht]
          exact (List.take_sublist _ _).nodup v.nd
        have := (List.nodup_append.mp nd2).2.2 c (of_decide_eq_true hin) c (List.mem_singleton.mpr rfl)
        exact this rfl
      · refine ⟨_, _, rfl, s2, ?_, ?_⟩
        · rw [ht]
          intro x hx
          rcases List.mem_append.mp hx with h | h
          · exact haz x h
          · rw [List.mem_singleton.mp h]; exact hl2
        · rw [ht]
          refine List.nodup_append.mpr ⟨hnd, by simp, fun z hz z' hz' e => ?_⟩
          rw [List.mem_singleton.mp hz'] at e
          rw [e] at hz
          exact hin (decide_eq_true hz)
    · rintro σ H' ⟨v1, v2, rfl, s1, haz, hnd⟩
      have e : cs.take (S cs).cps.size = cs := List.take_of_length_le (Nat.le_of_eq rfl)
      rw [e] at haz hnd
      exact qv ⟨hlo, h4, haz, hnd⟩ _ s1
abbrev sCheckT : Stmt := topS 15
theorem scCheckT : FnScope ["letters", "text", "at", "letter"] ["letters", "text"] (defScope sCheckT) :=
  ⟨rfl, rfl, rfl, by decide +kernel, rfl, by decide +kernel, by decide +kernel⟩
theorem ok_checkT {f fI C : Addr} {fd fdI : FuncData} (F : Fun K "check_text" "check_text" sCheckT f fd) (T : ErrC K mg "UnknownLetter" C)
    (FI : Fun K "__init__" "UnknownLetter.__init__" sInitUL fI fdI) (bI : Binds K fdI ["self", "position"] []) (iC : PySem.W.findIn K (.ref C) "__init__" = some (some (.ref fI))) (tI : PySem.W.typeIn K (.ref fI) = some (.type "function"))
    (me : mg "enumerate" = none) :
    FnOk P w K mg base (L2.CX P w) 3 f fd ["letters", "text"] (spCT C) := by
  have GI : FnOk P w K mg base CX0 1 fI fdI ["self", "position"] (spI1 K C "UnknownLetter") := ok_initUL FI T
  refine F.okX scCheckT (fun vs H Q E h => ?_) (fun cdv A outer s H vs Q E hr h => ?_)
  · obtain ⟨gs, xs, rfl, _⟩ := h
    rfl
  · obtain ⟨gs, xs, rfl, qv, qe⟩ := h
    refine ⟨_, pss_one (ps_for (passes_of rfl) rfl (pi_enS (by rfl) me (pa_cons (pv 1) pa_nil))
      (pg_tup rfl (pgs_cons (pg_name (i := 2) scCheckT.nd rfl (.inl rfl)) (pgs_cons (pg_name (i := 3) scCheckT.nd rfl (.inl rfl)) pgs_nil)))
      (pss_one (ps_if (pt_cmpR op_notIn_sign (pv 3) (pv 0) rfl)
        (pss_one (ps_raise rfl (takes_of rfl rfl rfl rfl) (pmk_oex T.ox iC tI GI hr bI .nil pass0 (by rfl) T.gl (pa_cons (pv 2) pa_nil)))) pss_nil))), ?_⟩
    refine ⟨_, rfl, _, rfl, for_it (walkE (z := S xs)) (fun i σ H' => ∃ v2 v3, σ = [some (.str (S gs)), some (.str (S xs)), v2, v3] ∧ Same H H' ∧ ∀ (j c' : Nat), j < i → xs[j]? = some c' → c' ∈ gs)
      ⟨none, none, rfl, Same.refl _, (fun j c' h => absurd h (Nat.not_lt_zero _))⟩ (fun _ _ _ _ _ => trivial) ?_ ?_⟩
    · rintro i x σ H' H'' hi ⟨v2, v3, rfl, s1, hall⟩ ⟨T', c, rfl, nT, hc, rfl⟩
      have hc2 : xs[i]? = some c := by rw [← List.getElem?_toArray]; exact hc
      have s2 := s1.trans (same_new (o := .tup [.int (i : Nat), .str ⟨#[c]⟩]) nT)
      refine ⟨T', _, rfl, .inl (.inl upd_same), rfl, _, _, rfl, _, _, rfl, rfl, ?_⟩
      refine ⟨_, rfl, _, rfl, c, _, rfl, rfl, _, rfl, ?_⟩
      by_cases hcm : c ∈ gs
      · refine iteNS hcm ?_
        refine ⟨_, _, rfl, s2, fun j c' hj hx => ?_⟩
        by_cases e : j = i
        · rw [e, hc2] at hx
          rw [← Option.some.inj hx]
          exact hcm
        · exact hall j c' (by omega) hx
      · have e : (!decide (c ∈ (S gs).cps.toList)) = true := by
          show (!decide (c ∈ gs)) = true
          rw [decide_eq_false hcm]
          rfl
        rw [e]
        refine iteT ⟨_, rfl, (by show 1 ≤ 1000; decide), fun a na => ⟨a, _, rfl, upd_same, fun dx nd ne => ⟨rfl, dx, _, ?_, upd_same, ?_, ?_⟩⟩⟩
        · rw [upd_ne ne.symm, upd_same]
        · exact (after0 (C := C) (fs := []) na nd ne).1
        · exact qe i c hc2 hcm hall _ _ (s2.trans (after1 na nd ne).2) upd_same
    · rintro σ H' ⟨v2, v3, rfl, s1, hall⟩
      refine qv (fun c hc => ?_) _ s1
      obtain ⟨j, hj⟩ := List.mem_iff_getElem?.mp hc
      exact hall j c (List.getElem?_eq_some_iff.mp hj).1 hj
abbrev sBk : Stmt := topS 21
theorem scBk : FnScope ["item"] ["item"] (defScope sBk) := ⟨rfl, rfl, rfl, by decide +kernel, rfl, by decide +kernel, by decide +kernel⟩
theorem ok_bk {f : Addr} {fd : FuncData} (F : Fun K "is_blank" "is_blank" sBk f fd) (ml : mg "len" = none) : FnOk P w K mg base CX0 1 f fd ["item"] spBk := by
  refine F.ok scBk (fun vs H Q E h => ?_) (fun cdv A outer s H vs Q E hr h => ?_)
  · obtain ⟨x, rfl, _⟩ := h
    rfl
  · obtain ⟨x, rfl, hl, q⟩ := h
    refine ⟨_, pss_one (ps_ret (pe_cmpR op_gt (pe_callB call_len_str (by rfl) ml PySem.boot_len (pa_cons (pv 0) pa_nil)) pe_int (nomark _))), ?_⟩
    refine ⟨_, rfl, _, rfl, by rw [S_len]; exact small hl, _, _, rfl, rfl, ?_⟩
    have e : decide (((S x).length : Int) > 1) = decide (1 < x.length) := by
      rw [decide_eq_decide, S_len]
      omega
    show Q (.bl (decide (((S x).length : Int) > 1))) H
    rw [e]
    exact q _ (Same.refl _)
abbrev sIt : Stmt := topS 24
theorem scIt : FnScope ["letters", "item"] ["letters", "item"] (defScope sIt) := ⟨rfl, rfl, rfl, by decide +kernel, rfl, by decide +kernel, by decide +kernel⟩
theorem ok_it {f f1 : Addr} {fd fd1 : FuncData} (F : Fun K "item_text" "item_text" sIt f fd) (c1 : Cl P w K mg base "is_blank" 1 ["item"] spBk f1 fd1) (mP : ∃ t, mg "PLAIN_BLANK" = some (.str "{}" t)) :
    FnOk P w K mg base CX0 2 f fd ["letters", "item"] spIt := by
  obtain ⟨tP, mP⟩ := mP
  refine F.ok scIt (fun vs H Q E h => ?_) (fun cdv A outer s H vs Q E hr h => ?_)
  · obtain ⟨gs, x, rfl, _⟩ := h
    rfl
  · obtain ⟨gs, x, rfl, hg, hl, q⟩ := h
    refine ⟨_, pss_cons (ps_if (pt_not (pt_val (pe_cl c1 hr (by decide) (by rfl) (pa_cons (pv 1) pa_nil)))) (pss_one (ps_ret (pv 1))) pss_nil)
      (pss_cons (ps_if (pt_cmpR op_eq (pv 1) (pv 0) (nomark _)) (pss_one (ps_ret (pe_glob (v := .str (Str.ofString "{}")) (by rfl) mP ⟨_, rfl⟩))) pss_nil)
      (pss_one (ps_ret (pe_join pe_str (pe_lst (pa_cons pe_str (pa_cons (pv 1) (pa_cons pe_str pa_nil)))))))), ?_⟩
    refine ⟨_, rfl, x, rfl, hl, fun H1 s1 => ⟨_, rfl, ?_⟩⟩
    by_cases h1 : 1 < x.length
    rotate_left
    · rw [decide_eq_false h1]
      refine iteT ⟨_, rfl, ?_⟩
      have e : iTx gs x = x := by unfold iTx; rw [if_neg h1]
      have := q H1 s1
      rw [e] at this
      exact this
    rw [decide_eq_true h1]
    refine iteF ⟨_, rfl, _, rfl, rfl, _, rfl, ?_⟩
    by_cases h2 : x = gs
    · rw [decide_eq_true (by rw [h2])]
      have e : iTx gs x = [123, 125] := by unfold iTx; rw [if_pos h1, if_pos h2]
      have := q H1 s1
      rw [e] at this
      exact iteT this
    · rw [decide_eq_false (fun e => h2 (S_inj (V.str.inj e)))]
      refine iteF ⟨⟨_, rfl⟩, _, rfl, (by show 3 ≤ sizeLine; decide), fun p np => ?_⟩
      have e : iTx gs x = [123] ++ x ++ [125] := by unfold iTx; rw [if_pos h1, if_neg h2]
      have o1 : Str.ofString "{" = S [123] := by decide +kernel
      have o2 : Str.ofString "}" = S [125] := by decide +kernel
      refine ⟨_, p, [[123], x, [125]].map S, rfl, rfl, .inl (.inl (.inl ?_)), ?_, ?_⟩
      · rw [upd_same, o1, o2]
        rfl
      · rw [sum_len]
        show ([123] ++ (x ++ ([125] ++ []))).length + _ * 0 ≤ _
        rw [List.length_append, List.length_append]
        show 1 + (_ + 1) + _ * 0 ≤ _
        omega
      · rw [joinT]
        have := q _ (s1.trans (same_new (o := .lst [.str (Str.ofString "{"), tx x, .str (Str.ofString "}")]) np))
        rw [e] at this
        rw [show [[123], x, [125]].flatten = [123] ++ x ++ [125] by simp]
        exact this
abbrev sRt : Stmt := topS 25
theorem scRt : FnScope ["letters", "row", "item"] ["letters", "row"] (defScope sRt) := ⟨rfl, rfl, rfl, by decide +kernel, rfl, by decide +kernel, by decide +kernel⟩
theorem ok_rt {f f1 : Addr} {fd fd1 : FuncData} (F : Fun K "row_text" "row_text" sRt f fd) (ml : mg "len" = none) (c1 : Cl P w K mg base "item_text" 2 ["letters", "item"] spIt f1 fd1) (mE : ∃ t, mg "EMPTY_TEXT" = some (.str "-" t)) :
    FnOk P w K mg base CX0 3 f fd ["letters", "row"] (spRt K) := by
  obtain ⟨tE, mE⟩ := mE
  refine F.ok scRt (fun vs H Q E h => ?_) (fun cdv A outer s H vs Q E hr h => ?_)
  · obtain ⟨gs, a, its, rfl, _⟩ := h
    rfl
  · obtain ⟨gs, a, its, rfl, hg, hs, hl, hx, q⟩ := h
    refine ⟨_, pss_cons (ps_if (pt_cmpR op_eq (pe_callB call_len (by rfl) ml PySem.boot_len (pa_cons (pv 1) pa_nil)) pe_int (nomark _)) (pss_one (ps_ret (pe_glob (v := .str (Str.ofString "-")) (by rfl) mE ⟨_, rfl⟩))) pss_nil)
      (pss_one (ps_ret (pe_join pe_str (pe_lc (own := [("item", 2)]) (g := gName 2) (tt := tYes) rfl scRt.nd (pi_any (pv 1))
        (blkOk_by (N := ["letters", "row", "item"]) (sc := defScope sRt) (by decide +kernel))
        (fun _ _ _ _ _ => pg_name (i := 2) scRt.nd rfl (Or.inl rfl)) (fun _ _ _ _ _ => pts_nil)
        (fun _ _ _ _ _ => pe_cl c1 hr (by decide) (by rfl) (pa_cons (pv 0) (pa_cons (pv 2) pa_nil))))))), ?_⟩
    have hln : LenV K (.ref a) H its.length := hs.imp (fun h => ⟨_, h, (List.length_map ..).symm⟩) (fun h => ⟨_, h, (List.length_map ..).symm⟩)
    refine ⟨_, rfl, _, its.length, rfl, hln, rfl, _, rfl, ?_⟩
    by_cases h0 : its = []
    · subst h0
      rw [decide_eq_true (show V.int ((([] : List (List Nat)).length : Nat) : Int) = V.int 0 from rfl)]
      exact iteT (q H (Same.refl _))
    · have hne : its.length ≠ 0 := fun e => h0 (List.length_eq_zero_iff.mp e)
      rw [decide_eq_false (fun e => hne (by have := V.int.inj e; omega))]
      refine iteF ⟨⟨_, rfl⟩, it_any (a := a) (xs := its.map tx) (fun k hk => ⟨_, rfl, hk⟩) hs (Same.refl _) fun J W D nD => ?_⟩
      refine lc_it W (fun i H' => Same H H' ∧ H' D = some (.lst (((its.take i).map (iTx gs)).map tx))) ⟨same_new nD, upd_same⟩ (fun _ _ _ h => h.1) ?_ ?_
      · rintro i y H' H'' hi ⟨s1, hD⟩ ⟨rfl, hy⟩
        obtain ⟨x, hx2, rfl⟩ := get_tx hy
        have hxm := hx x (List.mem_of_getElem? hx2)
        refine ⟨rfl, _, rfl, _, rfl, gs, x, rfl, hg, by omega, fun H3 s3 => ?_⟩
        refine ⟨_, s3 _ _ hD, ?_, same_put (s1.trans s3) nD, ?_⟩
        · rw [List.length_map, List.length_map, List.length_take]
          exact small1000 (by omega)
        · rw [upd_same, List.take_add_one, hx2]
          simp
      · rintro H' ⟨s1, hD⟩
        rw [List.length_map, List.take_length] at hD
        refine ⟨_, D, (its.map (iTx gs)).map S, rfl, rfl, .inl (.inl (.inl ?_)), ?_, ?_⟩
        · rw [hD]
          simp
        · rw [sum_len]
          have := flat_len (f := iTx gs) (m := 902) (its := its) fun x hx' => Nat.le_trans iTx_len (by have := hx x hx'; omega)
          show _ + _ * 0 ≤ _
          have : its.length * 902 ≤ 900 * 902 := Nat.mul_le_mul_right _ hl
          omega
        · rw [joinT]
          have := q _ s1
          unfold rTx at this
          rw [if_neg h0] at this
          exact this
abbrev sTr : Stmt := topS 28
theorem scTr : FnScope ["letters", "turn", "row", "item"] ["letters", "turn", "row"] (defScope sTr) := ⟨rfl, rfl, rfl, by decide +kernel, rfl, by decide +kernel, by decide +kernel⟩
theorem ok_tr {f f1 : Addr} {fd fd1 : FuncData} (F : Fun K "turned_row" "turned_row" sTr f fd) (c1 : Cl P w K mg base "turned" 2 ["letters", "turn", "text"] spTd f1 fd1) :
    FnOk P w K mg base CX0 3 f fd ["letters", "turn", "row"] (spTr K) := by
  refine F.ok scTr (fun vs H Q E h => ?_) (fun cdv A outer s H vs Q E hr h => ?_)
  · obtain ⟨gs, t, a, its, rfl, _⟩ := h
    rfl
  · obtain ⟨gs, t, a, its, rfl, nd, hg, ht, hs, hl, hx, q⟩ := h
    refine ⟨_, pss_one (ps_ret (pe_lc (own := [("item", 3)]) (g := gName 3) (tt := tYes) rfl scTr.nd (pi_any (pv 2))
        (blkOk_by (N := ["letters", "turn", "row", "item"]) (sc := defScope sTr) (by decide +kernel))
        (fun _ _ _ _ _ => pg_name (i := 3) scTr.nd rfl (Or.inl rfl)) (fun _ _ _ _ _ => pts_nil)
        (fun _ _ _ _ _ => pe_cl c1 hr (by decide) (by rfl) (pa_cons (pv 0) (pa_cons (pv 1) (pa_cons (pv 3) pa_nil)))))), ?_⟩
    refine it_any (a := a) (xs := its.map tx) (fun k hk => ⟨_, rfl, hk⟩) hs (Same.refl _) fun J W D nD => ?_
    refine lc_it W (fun i H' => Same H H' ∧ H' D = some (.lst (((its.take i).map fun x => x.map (tau gs t)).map tx))) ⟨same_new nD, upd_same⟩ (fun _ _ _ h => h.1) ?_ ?_
    · rintro i y H' H'' hi ⟨s1, hD⟩ ⟨rfl, hy⟩
      obtain ⟨x, hx2, rfl⟩ := get_tx hy
      obtain ⟨hx3, hx4⟩ := hx x (List.mem_of_getElem? hx2)
      refine ⟨rfl, _, rfl, _, rfl, _, rfl, gs, t, x, rfl, nd, hg, ht, hx3, hx4, fun H3 s3 => ?_⟩
      refine ⟨_, s3 _ _ hD, ?_, same_put (s1.trans s3) nD, ?_⟩
      · rw [List.length_map, List.length_map, List.length_take]
        exact small1000 (by omega)
      · rw [upd_same, List.take_add_one, hx2]
        simp
    · rintro H' ⟨s1, hD⟩
      rw [List.length_map, List.take_length] at hD
      exact q _ _ s1 nD hD
abbrev sPut : Stmt := topS 29
theorem scPut : FnScope ["letters", "row", "inner", "made", "item"] ["letters", "row", "inner"] (defScope sPut) := ⟨rfl, rfl, rfl, by decide +kernel, rfl, by decide +kernel, by decide +kernel⟩
theorem ok_put {f f1 f2 : Addr} {fd fd1 fd2 : FuncData} (F : Fun K "put_row" "put_row" sPut f fd) (c1 : Cl P w K mg base "is_blank" 1 ["item"] spBk f1 fd1) (c2 : Cl P w K mg base "turned_row" 3 ["letters", "turn", "row"] (spTr K) f2 fd2) :
    FnOk P w K mg base CX0 4 f fd ["letters", "row", "inner"] (spPut K) := by
  refine F.ok scPut (fun vs H Q E h => ?_) (fun cdv A outer s H vs Q E hr h => ?_)
  · obtain ⟨gs, a, b, its, inn, rfl, _⟩ := h
    rfl
  · obtain ⟨gs, a, b, its, inn, rfl, nd, hg, hR, hs, hl, hi, hil, hix, q⟩ := h
    refine ⟨_, pss_cons (ps_set (i := 3) scPut.nd rfl (.inl rfl) (pe_lst pa_nil))
      (pss_cons (ps_for PassesOwn.never rfl (pi_any (pv 1)) (pg_name (i := 4) scPut.nd rfl (.inl rfl))
        (pss_one (ps_if (pt_val (pe_cl c1 hr (by decide) (by rfl) (pa_cons (pv 4) pa_nil)))
          (pss_one (ps_expr (pe_bm PySem.F.plainAttrs_list PySem.F.slot_list_extend PySem.F.type_list_extend mt_extend (pv 3) (pa_cons (pe_cl c2 hr (by decide) (by rfl) (pa_cons (pv 0) (pa_cons (pv 4) (pa_cons (pv 2) pa_nil)))) pa_nil))))
          (pss_one (ps_expr (pe_bm PySem.F.plainAttrs_list PySem.F.slot_list_append PySem.F.type_list_append mt_append (pv 3) (pa_cons (pv 4) pa_nil)))))))
      (pss_one (ps_ret (pv 3)))), ?_⟩
    refine ⟨Nat.zero_le _, fun D nD => ?_⟩
    have s0 := same_new (o := .lst []) nD
    refine it_any (a := a) (xs := its.map tx) (fun k hk => ⟨_, rfl, hk⟩) hs s0 fun J W => ?_
    have plen : ∀ l : List (List Nat), (putL gs l inn).length ≤ l.length * 901 := by
      intro l
      unfold putL
      induction l with
      | nil => exact Nat.zero_le _
      | cons x r ih =>
        rw [List.map_cons, List.flatten_cons, List.length_append, List.length_cons, Nat.add_mul]
        have : (if 1 < x.length then inn.map fun y => y.map (tau gs x) else [x]).length ≤ 901 := by
          split
          · rw [List.length_map]; omega
          · show 1 ≤ 901; omega
        omega
    refine for_it W (fun i σ H' => ∃ v, σ = [some (tx gs), some (.ref a), some (.ref b), some (.ref D), v] ∧ Same H H' ∧ H' D = some (.lst ((putL gs (its.take i) inn).map tx)))
      ⟨none, rfl, s0, upd_same⟩ (fun _ _ _ _ ⟨_, _, s, _⟩ => s) ?_ ?_
    · rintro i y σ H' H'' hi2 ⟨v, rfl, s1, hD⟩ ⟨rfl, hy⟩
      obtain ⟨x, hx, rfl⟩ := get_tx hy
      have hxm : x ∈ its := List.mem_of_getElem? hx
      have hil2 : i < its.length := (List.getElem?_eq_some_iff.mp hx).1
      have pl2 : (putL gs (its.take i) inn).length ≤ 900 * 901 := by
        refine Nat.le_trans (plen _) (Nat.mul_le_mul_right _ ?_)
        rw [List.length_take]
        omega
      have estep : putL gs (its.take (i + 1)) inn = putL gs (its.take i) inn ++ (if 1 < x.length then inn.map fun y => y.map (tau gs x) else [x]) := by
        unfold putL
        rw [List.take_add_one, hx]
        simp
      have hxl : x.length ≤ 1000 := by
        rcases hR x hxm with ⟨c, _, rfl⟩ | p
        · show 1 ≤ 1000; omega
        · rw [p.length_eq]; exact hg
      refine ⟨_, rfl, x, rfl, hxl, fun H3 s3 => ⟨_, rfl, ?_⟩⟩
      have hD3 := s3 _ _ hD
      by_cases h1 : 1 < x.length
      · rw [decide_eq_true h1]
        rw [if_pos h1] at estep
        have hxp : x.length = gs.length := by
          rcases hR x hxm with ⟨c, _, rfl⟩ | p
          · exact absurd h1 (by show ¬ 1 < 1; omega)
          · exact p.length_eq
        refine iteT ⟨_, rfl, .inl ⟨rfl, _, .inl (.inl hD3)⟩, ?_⟩
        refine ⟨_, rfl, _, rfl, _, rfl, gs, x, b, inn, rfl, nd, hg, hxp, hi.same (s1.trans s3), hil, hix, fun H4 p s4 np hp => ?_⟩
        refine ⟨D, p, _, _, rfl, rfl, s4 _ _ hD3, hp, ?_, ?_⟩
        · rw [List.length_map, List.length_map, List.length_map, sizeLine_eq]
          omega
        · refine ⟨_, rfl, same_put ((s1.trans s3).trans s4) nD, ?_⟩
          rw [upd_same, estep, List.map_append]
      · rw [decide_eq_false h1]
        rw [if_neg h1] at estep
        refine iteF ⟨_, rfl, .inl ⟨rfl, _, .inl (.inl hD3)⟩, ?_⟩
        refine ⟨_, rfl, D, _, _, rfl, rfl, hD3, ?_, ?_⟩
        · rw [List.length_map, sizeLine_eq]
          omega
        · refine ⟨_, rfl, same_put (s1.trans s3) nD, ?_⟩
          rw [upd_same, estep, List.map_append]
          rfl
    · rintro σ H' ⟨v, rfl, s1, hD⟩
      rw [List.length_map, List.take_length] at hD
      exact ⟨_, rfl, q _ _ s1 nD hD⟩
abbrev sBw : Stmt := topS 22
theorem scBw : FnScope ["letters", "text", "at", "end"] ["letters", "text", "at"] (defScope sBw) := ⟨rfl, rfl, rfl, by decide +kernel, rfl, by decide +kernel, by decide +kernel⟩
theorem ok_bw {f f1 : Addr} {fd fd1 : FuncData} (F : Fun K "blank_width" "blank_width" sBw f fd) (ml : mg "len" = none) (c1 : Cl P w K mg base "is_turn" 1 ["letters", "turn"] spIs f1 fd1) (mP : ∃ t, mg "PLAIN_BLANK" = some (.str "{}" t)) :
    FnOk P w K mg base CX0 2 f fd ["letters", "text", "at"] spBw := by
  obtain ⟨tP, mP⟩ := mP
  refine F.ok scBw (fun vs H Q E h => ?_) (fun cdv A outer s H vs Q E hr h => ?_)
  · obtain ⟨gs, pre, post, x, z, rfl, _⟩ := h
    rfl
  · obtain ⟨gs, pre, post, x, z, rfl, hg, hl, hc⟩ := h
    refine ⟨_, pss_cons (ps_if (pt_cmpR op_eq (pe_slice C8.sl_txt (pv 1) (po_some (pv 2)) (po_some (pe_op op_add (pv 2) pe_int))) (pe_glob (v := .str (Str.ofString "{}")) (by rfl) mP ⟨_, rfl⟩) (nomark _)) (pss_one (ps_ret pe_int)) pss_nil)
      (pss_cons (ps_set (i := 3) scBw.nd rfl (.inl rfl) (pe_op op_add (pe_op op_add (pv 2) pe_int) (pe_callB call_len_str (by rfl) ml PySem.boot_len (pa_cons (pv 0) pa_nil))))
      (pss_cons (ps_if (PW.pt (pw_and (pt_cmpR op_eq (pe_ix ix_str (pv 1) (pv 2) (fun _ _ => rfl)) pe_str (nomark _))
          (pw_and (pt_cmpR op_eq (pe_slice C8.sl_txt (pv 1) (po_some (pv 3)) (po_some (pe_op op_add (pv 3) pe_int))) pe_str (nomark _))
          (pw_and1 (pt_val (pe_cl c1 hr (by decide) (by rfl) (pa_cons (pv 0) (pa_cons (pe_slice C8.sl_txt (pv 1) (po_some (pe_op op_add (pv 2) pe_int)) (po_some (pv 3))) pa_nil))))))))
        (pss_one (ps_ret (pe_op op_add (pe_callB call_len_str (by rfl) ml PySem.boot_len (pa_cons (pv 0) pa_nil)) pe_int))) pss_nil)
      (pss_one (ps_ret pe_int)))), ?_⟩
    have hz : (S (pre ++ z ++ post)).length ≤ sizeLine := by rw [S_len]; exact small hl
    have ob : Str.ofString "{}" = S [123, 125] := by decide +kernel
    have o1 : Str.ofString "{" = S [123] := by decide +kernel
    have o2 : Str.ofString "}" = S [125] := by decide +kernel
    refine ⟨_, rfl, _, rfl, _, rfl, _, rfl, _, _, rfl, rfl, _, rfl, _, rfl, hz, rfl, _, rfl, ?_⟩
    rcases hc with ⟨rfl, q⟩ | ⟨hp, rfl, q⟩
    · rw [mid_app (p := pre) (z := [123, 125]) rfl (by simp), ob, decide_eq_true rfl]
      exact iteT (q _ (Same.refl _))
    · have hx2 : 2 ≤ x.length := by rw [hp.length_eq]; exact hg.lo
      have hx4 : x.length ≤ 4 := by rw [hp.length_eq]; exact hg.hi
      obtain ⟨c, r, rfl⟩ : ∃ c r, x = c :: r := by
        cases x with
        | nil => cases hx2
        | cons c r => exact ⟨c, r, rfl⟩
      have hcaz := hg.az c (hp.mem_iff.mp (List.mem_cons_self ..))
      have e1 : Txt.slice (S (pre ++ ([123] ++ (c :: r) ++ [125]) ++ post)) (some (pre.length : Int)) (some ((pre.length : Int) + 2)) = S [123, c] := by
        have e : pre ++ ([123] ++ (c :: r) ++ [125]) ++ post = pre ++ [123, c] ++ (r ++ [125] ++ post) := by simp
        rw [e]
        exact mid_app rfl (by simp)
      rw [e1, ob, decide_eq_false (fun e => by
        have := S_inj (V.str.inj e)
        injection this with _ h
        injection h with h
        omega)]
      have hzg : (S gs).length ≤ sizeLine := by rw [S_len]; exact small (by have := hg.hi; omega)
      refine iteF ⟨_, rfl, _, _, rfl, rfl, _, rfl, _, rfl, hzg, _, _, rfl, rfl, ?_⟩
      have hat : (pre ++ ([123] ++ (c :: r) ++ [125]) ++ post)[pre.length]? = some 123 := by simp
      refine ⟨_, rfl, _, rfl, _, _, 123, rfl, rfl, hz, atI_nat hat, rfl, _, rfl, ?_⟩
      rw [o1, decide_eq_true rfl]
      refine iteT ?_
      have hpl := hp.length_eq
      have hll : ((S gs).length : Int) = (((c :: r).length : Nat) : Int) := by rw [S_len, hpl]
      rw [hll]
      have e2 : Txt.slice (S (pre ++ ([123] ++ (c :: r) ++ [125]) ++ post)) (some ((pre.length : Int) + 1 + (((c :: r).length : Nat) : Int))) (some ((pre.length : Int) + 1 + (((c :: r).length : Nat) : Int) + 1)) = S [125] := by
        have e : pre ++ ([123] ++ (c :: r) ++ [125]) ++ post = (pre ++ [123] ++ (c :: r)) ++ [125] ++ post := by simp
        rw [e]
        refine mid_app ?_ ?_
        · simp only [List.length_append, List.length_singleton]
          omega
        · simp only [List.length_append, List.length_singleton]
          omega
      refine ⟨_, rfl, _, rfl, _, rfl, _, rfl, _, _, rfl, rfl, _, rfl, _, rfl, hz, rfl, _, rfl, ?_⟩
      rw [e2, o2, decide_eq_true rfl]
      refine iteT ?_
      have e3 : Txt.slice (S (pre ++ ([123] ++ (c :: r) ++ [125]) ++ post)) (some ((pre.length : Int) + 1)) (some ((pre.length : Int) + 1 + (((c :: r).length : Nat) : Int))) = S (c :: r) := by
        have e : pre ++ ([123] ++ (c :: r) ++ [125]) ++ post = (pre ++ [123]) ++ (c :: r) ++ ([125] ++ post) := by simp
        rw [e]
        refine mid_app ?_ ?_
        · simp only [List.length_append, List.length_singleton]
          omega
        · simp only [List.length_append, List.length_singleton]
          omega
      have gaz : ∀ d ∈ gs, d < 128 := fun d hd => by have := hg.az d hd; omega
      refine ⟨_, rfl, _, rfl, _, rfl, _, _, rfl, rfl, _, rfl, _, rfl, _, rfl, _, rfl, hz, ?_⟩
      rw [e3]
      refine ⟨gs, c :: r, rfl, by have := hg.hi; omega, by omega, gaz, (fun d hd => gaz d (hp.mem_iff.mp hd)), fun H1 s1 => ⟨_, rfl, ?_⟩⟩
      rw [decide_eq_true hp]
      refine iteT ⟨_, rfl, _, rfl, hzg, _, _, rfl, rfl, ?_⟩
      have hgl : ((S gs).length : Int) = (gs.length : Int) := by rw [S_len]
      rw [hgl]
      exact q _ s1
abbrev sRd : Stmt := topS 23
theorem scRd : FnScope ["letters", "text", "row", "at", "width"] ["letters", "text"] (defScope sRd) := ⟨rfl, rfl, rfl, by decide +kernel, rfl, by decide +kernel, by decide +kernel⟩
theorem ok_rd {f f1 : Addr} {fd fd1 : FuncData} (F : Fun K "read_row" "read_row" sRd f fd) (ml : mg "len" = none) (c1 : Cl P w K mg base "blank_width" 2 ["letters", "text", "at"] spBw f1 fd1) (mE : ∃ t, mg "EMPTY_TEXT" = some (.str "-" t)) :
    FnOk P w K mg base CX0 3 f fd ["letters", "text"] spRd := by
  obtain ⟨tE, mE⟩ := mE
  refine F.ok scRd (fun vs H Q E h => ?_) (fun cdv A outer s H vs Q E hr h => ?_)
  · obtain ⟨gs, t, its, rfl, _⟩ := h
    rfl
  · obtain ⟨gs, t, its, rfl, hg, hl, hrd, q⟩ := h
    refine ⟨_, pss_cons (ps_if (pt_cmpR op_eq (pv 1) (pe_glob (v := .str (Str.ofString "-")) (by rfl) mE ⟨_, rfl⟩) (nomark _)) (pss_one (ps_ret (pe_lst pa_nil))) pss_nil)
      (pss_cons (ps_if (pt_cmpR op_eq (pv 1) pe_str (nomark _)) pss_never pss_nil)
      (pss_cons (ps_set (i := 2) scRd.nd rfl (.inl rfl) (pe_lst pa_nil))
      (pss_cons (ps_set (i := 3) scRd.nd rfl (.inl rfl) pe_int)
      (pss_cons (ps_while PassesOwn.never (pt_cmpR op_lt (pv 3) (pe_callB call_len_str (by rfl) ml PySem.boot_len (pa_cons (pv 1) pa_nil)) (nomark _))
        (pss_one (ps_if (pt_cmpR op_in_sign (pe_ix ix_str (pv 1) (pv 3) (fun _ _ => rfl)) (pv 0) rfl)
          (pss_cons (ps_expr (pe_bm PySem.F.plainAttrs_list PySem.F.slot_list_append PySem.F.type_list_append mt_append (pv 2) (pa_cons (pe_ix ix_str (pv 1) (pv 3) (fun _ _ => rfl)) pa_nil)))
            (pss_one (ps_set (i := 3) scRd.nd rfl (.inl rfl) (pe_op op_add (pv 3) pe_int))))
          (pss_cons (ps_set (i := 4) scRd.nd rfl (.inl rfl) (pe_cl c1 hr (by decide) (by rfl) (pa_cons (pv 0) (pa_cons (pv 1) (pa_cons (pv 3) pa_nil)))))
          (pss_cons (ps_if (pt_cmpR op_eq (pv 4) pe_int (nomark _)) pss_never pss_nil)
          (pss_cons (ps_expr (pe_bm PySem.F.plainAttrs_list PySem.F.slot_list_append PySem.F.type_list_append mt_append (pv 2) (pa_cons
            (pe_ifExp (pt_cmpR op_eq (pv 4) pe_int (nomark _)) (pv 0) (pe_slice C8.sl_txt (pv 1) (po_some (pe_op op_add (pv 3) pe_int)) (po_some (pe_op op_sub (pe_op op_add (pv 3) (pv 4)) pe_int)))) pa_nil)))
            (pss_one (ps_set (i := 3) scRd.nd rfl (.inl rfl) (pe_op op_add (pv 3) (pv 4))))))))))
      (pss_one (ps_ret (pv 2))))))), ?_⟩
    have ob : Str.ofString "-" = S [45] := by decide +kernel
    refine ⟨_, rfl, rfl, _, rfl, ?_⟩
    rw [ob]
    rcases hrd with ⟨rfl, rfl⟩ | ⟨hne, zs, hf, rfl⟩
    · rw [decide_eq_true rfl]
      refine iteT ⟨Nat.zero_le _, fun p np => ?_⟩
      exact q _ p (same_new np) np upd_same
    obtain ⟨c0, r0, hz0, hc0⟩ : ∃ c r, zs.flatten = c :: r ∧ c ≠ 45 := by
      cases hf with
      | nil => exact absurd rfl hne
      | cons h1 h2 =>
        obtain ⟨c, r, e, h⟩ := form_head hg h1
        exact ⟨c, r ++ _, by rw [List.flatten_cons, e]; rfl, h⟩
    rw [decide_eq_false (fun e => by
      have := S_inj (V.str.inj e)
      rw [hz0] at this
      exact hc0 (List.cons.inj this).1)]
    refine iteF ⟨_, rfl, rfl, _, rfl, ?_⟩
    rw [empty_S, decide_eq_false (fun e => by
      have := S_inj (V.str.inj e)
      rw [hz0] at this
      cases this)]
    refine iteF ⟨Nat.zero_le _, fun D nD => ?_⟩
    have hz : (S zs.flatten).length ≤ sizeLine := by rw [S_len]; exact small hl
    have zl : ((S zs.flatten).length : Int) = (zs.flatten.length : Int) := by rw [S_len]
    have g123 : 123 ∉ gs := fun h => by have := hg.az _ h; omega
    refine ⟨fun m σ H' => ∃ dn its' zs' pre w, its = dn ++ its' ∧ Forms gs its' zs' ∧ zs.flatten = pre ++ zs'.flatten ∧ σ = [some (tx gs), some (tx zs.flatten), some (.ref D), some (.int (pre.length : Int)), w] ∧ Same H H' ∧ H' D = some (.lst (dn.map tx)) ∧ dn.length ≤ pre.length ∧ m = its'.length,
      ⟨its.length, [], its, zs, [], none, rfl, hf, rfl, rfl, same_new nD, upd_same, Nat.le_refl _, rfl⟩, ?_⟩
    rintro m σ H' ⟨dn, its', zs', pre, w, e1, hf', e2, rfl, s1, hD, hdn, rfl⟩
    refine ⟨_, rfl, _, rfl, _, rfl, hz, _, _, rfl, rfl, _, rfl, ?_⟩
    rw [zl]
    have e2l := congrArg List.length e2
    rw [List.length_append] at e2l
    cases hf' with
    | nil =>
      rw [decide_eq_false (by rw [e2l]; show ¬ (pre.length : Int) < ((pre.length + 0 : Nat) : Int); omega)]
      refine iteF ⟨_, rfl, ?_⟩
      rw [List.append_nil] at e1
      rw [← e1] at hD
      exact q _ _ s1 nD hD
    | @cons x z its2 zs2 h1 h2 =>
      have hzn : 0 < z.length := List.length_pos_iff.mpr (form_ne h1)
      rw [List.flatten_cons] at e2 e2l
      rw [List.length_append] at e2l
      rw [decide_eq_true (by omega)]
      have e3 : zs.flatten = pre ++ z ++ zs2.flatten := by rw [e2, List.append_assoc]
      have dnl : (dn.map tx).length < sizeLine := by rw [List.length_map]; exact small1000 (by omega)
      refine iteT ⟨fun σ' H'' => ∃ w', σ' = [some (tx gs), some (tx zs.flatten), some (.ref D), some (.int ((pre ++ z).length : Int)), w'] ∧ Same H H'' ∧ H'' D = some (.lst ((dn ++ [x]).map tx)),
        fun σ' H'' ⟨w', ea, eb, ec⟩ => ⟨its2.length, by show _ < its2.length + 1; omega, dn ++ [x], its2, zs2, pre ++ z, w', by rw [e1]; simp, h2, e3, ea, eb, ec, by rw [List.length_append, List.length_append]; show _ + 1 ≤ _; omega, rfl⟩, ?_⟩
      obtain ⟨c, zr, hzc⟩ : ∃ c r, z = c :: r := by
        obtain ⟨c, r, e, _⟩ := form_head hg h1
        exact ⟨c, r, e⟩
      have hat : (zs.flatten)[pre.length]? = some c := by rw [e3, hzc]; simp
      refine ⟨_, rfl, _, rfl, _, _, c, rfl, rfl, hz, atI_nat hat, _, rfl, c, _, rfl, rfl, _, rfl, ?_⟩
      show (if decide (c ∈ gs) = true then _ else _)
      cases h1 with
      | one hc =>
        obtain ⟨rfl, _⟩ := List.cons.inj hzc
        rw [decide_eq_true hc]
        refine iteT ⟨_, rfl, .inl ⟨rfl, _, .inl (.inl hD)⟩, _, rfl, _, rfl, _, _, _, rfl, rfl, hz, atI_nat hat, D, _, _, rfl, rfl, hD, dnl, ?_⟩
        refine ⟨_, rfl, _, _, rfl, rfl, ?_⟩
        refine ⟨w, ?_, same_put s1 nD, ?_⟩
        · rw [List.length_append]
          rfl
        · rw [upd_same, List.map_append]
          rfl
      | turn hp =>
        obtain ⟨rfl, _⟩ := List.cons.inj hzc
        rw [decide_eq_false g123]
        have hxl := hp.length_eq
        have hx2 : 2 ≤ x.length := by rw [hxl]; exact hg.lo
        refine iteF ⟨_, rfl, _, rfl, _, rfl, gs, pre, zs2.flatten, x, [123] ++ x ++ [125], by rw [e3]; rfl, hg, by rw [← e3]; exact hl, .inr ⟨hp, rfl, fun H3 s3 => ?_⟩⟩
        have hD3 := s3 _ _ hD
        refine ⟨_, rfl, rfl, _, rfl, ?_⟩
        rw [decide_eq_false (fun e => by have := V.int.inj e; omega)]
        refine iteF ⟨_, rfl, .inl ⟨rfl, _, .inl (.inl hD3)⟩, _, rfl, rfl, _, rfl, ?_⟩
        rw [decide_eq_false (fun e => by have := V.int.inj e; omega)]
        refine iteF ?_
        have e4 : Txt.slice (S zs.flatten) (some ((pre.length : Int) + 1)) (some ((pre.length : Int) + ((gs.length : Int) + 2) - 1)) = S x := by
          have e : zs.flatten = (pre ++ [123]) ++ x ++ ([125] ++ zs2.flatten) := by rw [e3]; simp
          rw [e]
          refine mid_app ?_ ?_
          · simp only [List.length_append, List.length_singleton]
            omega
          · simp only [List.length_append, List.length_singleton]
            omega
        refine ⟨_, rfl, _, rfl, _, _, rfl, rfl, _, rfl, _, rfl, _, rfl, _, _, rfl, rfl, _, _, rfl, rfl, _, rfl, _, rfl, hz, D, _, _, rfl, rfl, hD3, dnl, ?_⟩
        rw [e4]
        refine ⟨_, rfl, _, rfl, _, _, rfl, rfl, ?_⟩
        refine ⟨some (.int ((gs.length : Int) + 2)), ?_, same_put (s1.trans s3) nD, ?_⟩
        · have e : ((pre ++ ([123] ++ x ++ [125])).length : Int) = (pre.length : Int) + ((gs.length : Int) + 2) := by
            simp only [List.length_append, List.length_singleton]
            omega
          rw [e]
          rfl
        · rw [upd_same, List.map_append]
          rfl
      | plain =>
        obtain ⟨rfl, _⟩ := List.cons.inj hzc
        rw [decide_eq_false g123]
        refine iteF ⟨_, rfl, _, rfl, _, rfl, gs, pre, zs2.flatten, [], [123, 125], by rw [e3]; rfl, hg, by rw [← e3]; exact hl, .inl ⟨rfl, fun H3 s3 => ?_⟩⟩
        have hD3 := s3 _ _ hD
        refine ⟨_, rfl, rfl, _, rfl, ?_⟩
        rw [decide_eq_false (fun e => by have := V.int.inj e; omega)]
        refine iteF ⟨_, rfl, .inl ⟨rfl, _, .inl (.inl hD3)⟩, _, rfl, rfl, _, rfl, ?_⟩
        rw [decide_eq_true rfl]
        refine iteT ⟨_, rfl, D, _, _, rfl, rfl, hD3, dnl, ?_⟩
        refine ⟨_, rfl, _, rfl, _, _, rfl, rfl, ?_⟩
        refine ⟨some (.int 2), ?_, same_put (s1.trans s3) nD, ?_⟩
        · have e : ((pre ++ [123, 125]).length : Int) = (pre.length : Int) + 2 := by
            simp only [List.length_append]
            rfl
          rw [e]
          rfl
        · rw [upd_same, List.map_append]
          rfl
theorem ok_checkLn {f : Addr} {fd : FuncData} (F : Fun K "check_letters" "check_letters" sCheckL f fd)
    (me : mg "enumerate" = none) (ml : mg "len" = none) (mL : ∃ t, mg "LEAST_LETTERS" = some (.int 2 t)) (mM : ∃ t, mg "MOST_LETTERS" = some (.int 4 t)) (mA : ∃ t, mg "LOWERCASE" = some (.str "abcdefghijklmnopqrstuvwxyz" t)) :
    FnOk P w K mg base CX0 1 f fd ["letters"] spCLn := by
  obtain ⟨tL, mL⟩ := mL
  obtain ⟨tM, mM⟩ := mM
  obtain ⟨tA, mA⟩ := mA
  refine F.ok scCheckL (fun vs H Q E h => ?_) (fun cdv A outer s H vs Q E hr h => ?_)
  · obtain ⟨cs, rfl, _⟩ := h
    rfl
  · obtain ⟨cs, rfl, hg, q⟩ := h
    refine ⟨_, pss_cons (ps_if (pt_not (pt_chain op_le op_le (pe_glob (v := .int 2) (by rfl) mL ⟨_, rfl⟩) (pe_callB call_len_str (by rfl) ml PySem.boot_len (pa_cons (pv 0) pa_nil)) (pe_glob (v := .int 4) (by rfl) mM ⟨_, rfl⟩)))
        pss_never pss_nil)
      (pss_one (ps_for PassesOwn.never rfl (pi_enS (by rfl) me (pa_cons (pv 0) pa_nil))
        (pg_tup rfl (pgs_cons (pg_name (i := 1) scCheckL.nd rfl (.inl rfl)) (pgs_cons (pg_name (i := 2) scCheckL.nd rfl (.inl rfl)) pgs_nil)))
        (pss_one (ps_if (PW.pt (pw_or (pt_cmpR op_notIn_sign (pv 2) (pe_glob (v := .str (Str.ofString "abcdefghijklmnopqrstuvwxyz")) (by rfl) mA ⟨_, rfl⟩) rfl) (pw_or1 (pt_cmpR op_in_sign (pv 2) (pe_slice C8.sl_txt (pv 0) po_none (po_some (pv 1))) rfl))))
          pss_never pss_nil)))), ?_⟩
    have hz : (S cs).length ≤ sizeLine := by rw [S_len]; exact small (by have := hg.hi; omega)
    have hbs : ((S cs).length : Int) = (cs.length : Int) := by rw [S_len]
    refine ⟨_, rfl, _, rfl, hz, _, _, rfl, rfl, _, rfl, ?_⟩
    rw [hbs]
    have h1 := hg.lo
    have h2 := hg.hi
    refine ite2 (fun h => ?_) (fun h => absurd (decide_eq_true (by omega)) h)
    refine ⟨_, _, rfl, rfl, _, rfl, ?_⟩
    have e : decide ((cs.length : Int) ≤ 4) = true := decide_eq_true (by omega)
    rw [e]
    refine iteF ?_
    refine ⟨_, rfl, _, rfl, for_it (walkE (z := S cs)) (fun i σ H' => ∃ v1 v2, σ = [some (.str (S cs)), v1, v2] ∧ Same H H')
      ⟨none, none, rfl, Same.refl _⟩ (fun _ _ _ _ _ => trivial) ?_ ?_⟩
    · rintro i x σ H' H'' hi ⟨v1, v2, rfl, s1⟩ ⟨T, c, rfl, nT, hc, rfl⟩
      have hc2 : cs[i]? = some c := by rw [← List.getElem?_toArray]; exact hc
      have s2 := s1.trans (same_new (o := .tup [.int (i : Nat), .str ⟨#[c]⟩]) nT)
      refine ⟨T, _, rfl, .inl (.inl upd_same), rfl, _, _, rfl, _, _, rfl, rfl, ?_⟩
      refine ⟨_, rfl, c, _, rfl, rfl, _, rfl, ?_⟩
      have hcm : c ∈ cs := List.mem_of_getElem? hc2
      have hl2 := hg.az c hcm
      have e : (!decide (c ∈ (Str.ofString "abcdefghijklmnopqrstuvwxyz").cps.toList)) = false := by
        rw [az]
        show (!decide (c ∈ List.range' 97 26)) = false
        rw [decide_eq_true (List.mem_range'.mpr ⟨c - 97, by omega, by omega⟩)]
        rfl
      rw [e]
      refine ⟨_, rfl, _, rfl, _, rfl, _, rfl, _, rfl, hz, c, _, rfl, rfl, _, rfl, ?_⟩
      rw [slice_to (a := cs) (i := ((i : Nat) : Int)) (by omega)]
      show (if decide (c ∈ cs.take (((i : Nat) : Int).toNat)) = true then _ else _)
      rw [Int.toNat_natCast]
      have ht : cs.take (i + 1) = cs.take i ++ [c] := by rw [List.take_add_one, hc2]; rfl
      refine ite2 (fun hin => ?_) (fun hin => ⟨_, _, rfl, s2⟩)
      have nd2 : (cs.take i ++ [c]).Nodup := by
        rw [← ht]
        exact (List.take_sublist _ _).nodup hg.nd
      exact absurd rfl ((List.nodup_append.mp nd2).2.2 c (of_decide_eq_true hin) c (List.mem_singleton.mpr rfl))
    · rintro σ H' ⟨v1, v2, rfl, s1⟩
      exact q _ s1
abbrev sTi : Stmt := inClass (topS 30) 0
theorem scTi : FnScope ["self", "letters", "text"] ["self", "letters", "text"] (defScope sTi) := ⟨rfl, rfl, rfl, by decide +kernel, rfl, by decide +kernel, by decide +kernel⟩
theorem ok_ti {f f1 f2 C : Addr} {fd fd1 fd2 : FuncData} (F : Fun K "__init__" "Template.__init__" sTi f fd) (T : TmC K C) (mt : mg "tuple" = none)
    (c1 : Cl P w K mg base "check_letters" 1 ["letters"] spCLn f1 fd1) (c2 : Cl P w K mg base "read_row" 3 ["letters", "text"] spRd f2 fd2) :
    FnOk P w K mg base CX0 4 f fd ["self", "letters", "text"] (spTi C) := by
  refine F.ok scTi (fun vs H Q E h => ?_) (fun cdv A outer s H vs Q E hr h => ?_)
  · obtain ⟨x, dx, gs, t, its, rfl, _⟩ := h
    rfl
  · obtain ⟨x, dx, gs, t, its, rfl, hx, hg, hl, hrd, q⟩ := h
    refine ⟨_, pss_cons (ps_expr (pe_cl c1 hr (by decide) (by rfl) (pa_cons (pv 1) pa_nil)))
      (pss_cons (ps_fld (pv 0) (pv 1) (by rfl))
      (pss_one (ps_fld (pv 0) (pe_callTy call_tuple_of (by rfl) mt (by decide +kernel) (pa_cons (pe_cl c2 hr (by decide) (by rfl) (pa_cons (pv 1) (pa_cons (pv 2) pa_nil))) pa_nil)) (by rfl)))), ?_⟩
    refine ⟨_, rfl, gs, rfl, hg, fun H1 s1 => ?_⟩
    refine ⟨_, rfl, _, rfl, x, C, dx, _, rfl, s1 _ _ hx, T.cls, T.na, (by show 0 < 1000; decide), ?_⟩
    refine ⟨_, rfl, _, rfl, gs, t, its, rfl, hg, hl, hrd, fun H2 p s2 np hp => ?_⟩
    refine ⟨p, _, rfl, .inl ⟨.inl (.inl hp), fun l nl => ?_⟩⟩
    have h2 := s2 _ _ (upd_same (H := H1) (a := x) (o := .ins C dx (putF "alphabet" (tx gs) [])))
    have nxl : x ≠ l := ne_of_none h2 nl
    refine ⟨_, rfl, x, C, dx, _, rfl, by rw [upd_ne nxl]; exact h2, T.cls, T.np, (by show 1 < 1000; decide), ?_⟩
    refine q _ (fun b o nb e => ?_) ⟨dx, l, upd_same, by rw [upd_ne nxl.symm, upd_same]⟩
    rw [upd_ne nb]
    refine same_new nl _ _ (s2 _ _ ?_)
    rw [upd_ne nb]
    exact s1 _ _ e
/-- Template(letters, text) -/
theorem tm_mk {C : Addr} {σ : L2.St} {H : Hp} {Q : VK} {ta : TA} {gs t : List Nat} {its : List (List Nat)} (h : ∀ k : List V → Hp → Prop, (∀ H1, Same H H1 → k [tx gs, tx t] H1) → ta σ H k) (hg : Good gs) (hl : t.length ≤ 1000) (hrd : Rd gs its t)
    (q : ∀ H' p, Same H H' → H p = none → Tm C H' p gs its → Q (.ref p) H') : tMake C (spTi C) [] E0 ta σ H Q := by
  refine h _ fun H1 s1 x dx nx nd ne => ?_
  refine ⟨x, dx, gs, t, its, rfl, upd_same, hg, hl, hrd, fun H2 k tm => ⟨rfl, ?_⟩⟩
  have hn : H x = none := by
    cases e : H x with
    | none => rfl
    | some o => rw [s1 _ _ e] at nx; cases nx
  refine q _ _ (fun b o e => ?_) hn tm
  have e1 := s1 _ _ e
  refine k b o (ne_of_none e1 nx) ?_
  rw [upd_ne (ne_of_none e1 nx), upd_ne (ne_of_none e1 nd)]
  exact e1
abbrev sRow : Stmt := inClass (topS 30) 6
theorem scRow : FnScope ["self"] ["self"] (defScope sRow) := ⟨rfl, rfl, rfl, by decide +kernel, rfl, by decide +kernel, by decide +kernel⟩
theorem ok_row {f C : Addr} {fd : FuncData} (F : Fun K "row" "Template.row" sRow f fd) (T : TmC K C) (ml : mg "list" = none) :
    FnOk P w K mg base CX0 1 f fd ["self"] (spRow C) := by
  refine F.ok scRow (fun vs H Q E h => ?_) (fun cdv A outer s H vs Q E hr h => ?_)
  · obtain ⟨a, gs, its, rfl, _⟩ := h
    rfl
  · obtain ⟨a, gs, its, rfl, ⟨dx, p, ha, hp⟩, q⟩ := h
    refine ⟨_, pss_one (ps_ret (pe_callTy call_list_of (by rfl) ml (by decide +kernel) (pa_cons (pe_fld (pv 0) (by rfl)) pa_nil))), ?_⟩
    refine ⟨_, rfl, a, C, dx, _, _, rfl, ha, T.cls, T.np, rfl, p, _, rfl, .inr (.inl (.inl hp)), fun l nl => ?_⟩
    exact q _ l (same_new nl) nl upd_same
abbrev sFi : Stmt := inClass (topS 30) 9
theorem scFi : FnScope ["self", "text"] ["self", "text"] (defScope sFi) := ⟨rfl, rfl, rfl, by decide +kernel, rfl, by decide +kernel, by decide +kernel⟩
theorem ok_fi {f f1 f2 C : Addr} {fd fd1 fd2 : FuncData} (F : Fun K "fill" "Template.fill" sFi f fd) (T : TmC K C)
    (c1 : Cl P w K mg base "check_text" 1 ["letters", "text"] spCk f1 fd1) (c2 : Cl P w K mg base "put_row" 4 ["letters", "row", "inner"] (spPut K) f2 fd2) :
    FnOk P w K mg base CX0 5 f fd ["self", "text"] (spFi C) := by
  refine F.ok scFi (fun vs H Q E h => ?_) (fun cdv A outer s H vs Q E hr h => ?_)
  · obtain ⟨a, gs, its, xs, rfl, _⟩ := h
    rfl
  · obtain ⟨a, gs, its, xs, rfl, ⟨dx, p, ha, hp⟩, hg, hR, hl, hxl, hxm, q⟩ := h
    refine ⟨_, pss_cons (ps_expr (pe_cl c1 hr (by decide) (by rfl) (pa_cons (pe_fld (pv 0) (by rfl)) (pa_cons (pv 1) pa_nil))))
      (pss_one (ps_ret (pe_join pe_str (pe_cl c2 hr (by decide) (by rfl) (pa_cons (pe_fld (pv 0) (by rfl)) (pa_cons (pe_fld (pv 0) (by rfl)) (pa_cons (pe_lst (pa_cons (pv 1) pa_nil)) pa_nil))))))), ?_⟩
    refine ⟨_, rfl, a, C, dx, _, _, rfl, ha, T.cls, T.na, rfl, _, rfl, gs, xs, rfl, hxm, fun H1 s1 => ?_⟩
    have ha1 := s1 _ _ ha
    have hp1 := s1 _ _ hp
    refine ⟨⟨_, rfl⟩, _, rfl, a, C, dx, _, _, rfl, ha1, T.cls, T.na, rfl, _, rfl, a, C, dx, _, _, rfl, ha1, T.cls, T.np, rfl, _, rfl, (by show 1 ≤ sizeLine; decide), fun l nl => ?_⟩
    have s2 := same_new (o := .lst [tx xs]) nl
    refine ⟨gs, p, l, its, [xs], rfl, hg.nd, by have := hg.hi; omega, hR, .inr (.inl (.inl (s2 _ _ hp1))), hl, .inl (.inl (.inl upd_same)), (by show 1 ≤ 900; decide), ?_, fun H3 p3 s3 np3 hp3 => ?_⟩
    · intro x hx
      rw [List.mem_singleton.mp hx]
      exact ⟨hxl, hxm⟩
    · refine ⟨_, p3, (putL gs its [xs]).map S, rfl, rfl, .inl (.inl (.inl ?_)), ?_, ?_⟩
      · rw [hp3]
        simp
      · rw [sum_len]
        have h1 : (putL gs its [xs]).length ≤ its.length * 1 := put_len (Nat.le_refl _) (Nat.le_refl _)
        have h2 : ((putL gs its [xs]).map id).flatten.length ≤ (putL gs its [xs]).length * 1000 := flat_len (f := id) (m := 1000) fun y hy => by
          unfold putL at hy
          obtain ⟨l2, hl2, hy2⟩ := List.mem_flatten.mp hy
          obtain ⟨x, hx, rfl⟩ := List.mem_map.mp hl2
          split at hy2
          · obtain ⟨z, hz, rfl⟩ := List.mem_map.mp hy2
            rw [List.mem_singleton.mp hz]
            show (xs.map _).length ≤ 1000
            rw [List.length_map]
            exact hxl
          · rw [List.mem_singleton.mp hy2]
            show x.length ≤ 1000
            have := row_len hg hR x hx
            omega
        rw [List.map_id] at h2
        show _ + _ * 0 ≤ _
        omega
      · rw [joinT]
        exact q _ ((s1.trans s2).trans s3)
abbrev sItems : Stmt := topS 46
theorem scItems : FnScope ["_law_rng", "_law_signs", "_law_most", "_law_found", "_law_k"] ["_law_rng", "_law_signs", "_law_most"] (defScope sItems) := ⟨rfl, rfl, rfl, by decide +kernel, rfl, by decide +kernel, by decide +kernel⟩
theorem ok_items {f f1 f2 f3 : Addr} {fd fd1 fd2 fd3 : FuncData} (F : Fun K "_law_items" "_law_items" sItems f fd) (mr : mg "range" = none)
    (c1 : Cl P w K mg base "_law_draw" 1 ["_law_rng", "_law_sides"] spDraw f1 fd1) (c2 : Cl P w K mg base "_law_turn" 2 ["_law_rng", "_law_signs"] spTurn f2 fd2) (c3 : Cl P w K mg base "_law_pick" 2 ["_law_rng", "_law_things"] (spPick K) f3 fd3) :
    FnOk P w K mg base CX0 3 f fd ["_law_rng", "_law_signs", "_law_most"] spItems := by
  refine F.ok scItems (fun vs H Q E h => ?_) (fun cdv A outer s H vs Q E hr h => ?_)
  · obtain ⟨r, gs, m, rfl, _⟩ := h
    rfl
  · obtain ⟨r, gs, m, rfl, hg, m0, m1, R, q⟩ := h
    refine ⟨_, pss_cons (ps_set (i := 3) scItems.nd rfl (.inl rfl) (pe_lst pa_nil))
      (pss_cons (ps_for PassesOwn.never rfl (pi_range1 rfl mr (pa_cons (pe_cl c1 hr (by decide) (by rfl) (pa_cons (pv 0) (pa_cons (pe_op op_add (pv 2) pe_int) pa_nil))) pa_nil)) (pg_name (i := 4) scItems.nd rfl (.inl rfl))
        (pss_one (ps_expr (pe_bm PySem.F.plainAttrs_list PySem.F.slot_list_append PySem.F.type_list_append mt_append (pv 3) (pa_cons
          (pe_ifExp (pt_cmpR op_eq (pe_cl c1 hr (by decide) (by rfl) (pa_cons (pv 0) (pa_cons pe_int pa_nil))) pe_int (nomark _)) (pe_cl c2 hr (by decide) (by rfl) (pa_cons (pv 0) (pa_cons (pv 1) pa_nil)))
            (pe_cl c3 hr (by decide) (by rfl) (pa_cons (pv 0) (pa_cons (pv 1) pa_nil)))) pa_nil)))))
      (pss_one (ps_ret (pv 3)))), ?_⟩
    refine ⟨Nat.zero_le _, fun D nD => ?_⟩
    have s0 := same_new (o := .lst []) nD
    obtain ⟨xr, er⟩ := R.ex
    have nDr : D ≠ r := (ne_of_none er nD).symm
    refine ⟨_, rfl, _, rfl, _, _, rfl, rfl, r, _, rfl, by omega, by omega, R.same s0, fun H1 k g1 k0 k1 => ?_⟩
    obtain ⟨n, rfl⟩ := Int.eq_ofNat_of_zero_le k0
    have G1 : Go r H H1 := Go.after R s0 g1
    refine ⟨_, rfl, by omega, by omega, ?_⟩
    refine for_range (lo := 0) (n := (n : Int).toNat)
      (fun i σ H' => ∃ v its, σ = [some (.ref r), some (tx gs), some (.int m), some (.ref D), v] ∧ Go r H H' ∧ H' D = some (.lst (its.map tx)) ∧ Row gs its ∧ its.length = i)
      ⟨none, [], rfl, G1, g1.1 _ _ nDr upd_same, (fun x hx => nomatch hx), rfl⟩ ?_ ?_
    · rintro i σ H' hi ⟨v, its, rfl, g, hD, hR, hl⟩
      refine ⟨_, rfl, .inl ⟨rfl, _, .inl (.inl hD)⟩, _, rfl, r, 2, rfl, by decide, by decide, g.rng, fun H2 d g2 d0 d1 => ?_⟩
      have hD2 := g2.1 _ _ nDr hD
      have dl : (its.map tx).length < sizeLine := by rw [List.length_map]; exact small1000 (by omega)
      refine ⟨rfl, _, rfl, ?_⟩
      refine ite2 (fun _ => ?_) (fun _ => ?_)
      · refine ⟨_, rfl, _, rfl, r, gs, rfl, by have := hg.hi; omega, g2.rng, fun H3 t g3 pt => ?_⟩
        refine ⟨D, _, _, rfl, rfl, g3.1 _ _ nDr hD2, dl, _, its ++ [t], rfl, ((g.trans g2).trans g3).put nD, ?_, fun x hx => ?_, by rw [List.length_append, hl]; rfl⟩
        · rw [upd_same, List.map_append]
          rfl
        · rcases List.mem_append.mp hx with h | h
          · exact hR x h
          · rw [List.mem_singleton.mp h]; exact .inr pt
      · refine ⟨_, rfl, _, rfl, r, _, rfl, g2.rng, .inr ⟨gs, rfl, by have := hg.lo; omega, by have := hg.hi; omega, fun H3 c g3 hc => ?_⟩⟩
        refine ⟨D, _, _, rfl, rfl, g3.1 _ _ nDr hD2, dl, _, its ++ [[c]], rfl, ((g.trans g2).trans g3).put nD, ?_, fun x hx => ?_, by rw [List.length_append, hl]; rfl⟩
        · rw [upd_same, List.map_append]
          rfl
        · rcases List.mem_append.mp hx with h | h
          · exact hR x h
          · rw [List.mem_singleton.mp h]; exact .inl ⟨c, hc, rfl⟩
    · rintro σ H' ⟨v, its, rfl, g, hD, hR, hl⟩
      exact ⟨_, rfl, q _ _ its g nD hD hR (by omega)⟩
abbrev sLf : Stmt := topS 47
theorem scLf : FnScope ["_law_signs", "_law_items_here", "_law_shown", "_law_item"] ["_law_signs", "_law_items_here", "_law_shown"] (defScope sLf) := ⟨rfl, rfl, rfl, by decide +kernel, rfl, by decide +kernel, by decide +kernel⟩
theorem ok_lf {f f1 : Addr} {fd fd1 : FuncData} (F : Fun K "_law_fill" "_law_fill" sLf f fd) (ml : mg "len" = none) (c1 : Cl P w K mg base "_law_turned" 1 ["_law_signs", "_law_my_turn", "_law_shown"] spTd f1 fd1) :
    FnOk P w K mg base CX0 2 f fd ["_law_signs", "_law_items_here", "_law_shown"] (spLf K) := by
  refine F.ok scLf (fun vs H Q E h => ?_) (fun cdv A outer s H vs Q E hr h => ?_)
  · obtain ⟨gs, a, its, xs, rfl, _⟩ := h
    rfl
  · obtain ⟨gs, a, its, xs, rfl, hg, hR, hl, hs, hxl, hxm, q⟩ := h
    refine ⟨_, pss_one (ps_ret (pe_join pe_str (pe_lc (own := [("_law_item", 3)]) (g := gName 3) (tt := tYes) rfl scLf.nd (pi_list (pv 1))
        (blkOk_by (N := ["_law_signs", "_law_items_here", "_law_shown", "_law_item"]) (sc := defScope sLf) (by decide +kernel))
        (fun _ _ _ _ _ => pg_name (i := 3) scLf.nd rfl (Or.inl rfl)) (fun _ _ _ _ _ => pts_nil)
        (fun _ _ _ _ _ => pe_ifExp (pt_cmpR op_eq (pe_callB call_len_str (by rfl) ml PySem.boot_len (pa_cons (pv 3) pa_nil)) pe_int (nomark _)) (pv 3)
          (pe_cl c1 hr (by decide) (by rfl) (pa_cons (pv 0) (pa_cons (pv 3) (pa_cons (pv 2) pa_nil)))))))), ?_⟩
    refine ⟨⟨_, rfl⟩, _, rfl, a, rfl, ⟨_, hs⟩, fun D nD => ?_⟩
    refine lc_list (K := K) (a := a) (xs := its.map tx) (fun i H' => Same H H' ∧ H' D = some (.lst (((its.take i).map (lf1 gs xs)).map tx))) ⟨same_new nD, upd_same⟩ (fun _ _ _ h => h.1.seq hs) ?_ ?_
    · rintro i y H' hy ⟨s1, hD⟩
      obtain ⟨x, hx2, rfl⟩ := get_tx hy
      have hxi := List.mem_of_getElem? hx2
      have hx4 := row_len hg hR x hxi
      have hzx : (S x).length ≤ sizeLine := by rw [S_len]; exact small (by omega)
      have dl : (((its.take i).map (lf1 gs xs)).map tx).length < sizeLine := by
        rw [List.length_map, List.length_map, List.length_take]
        exact small1000 (by omega)
      have fin : ∀ (H4 : Hp) (z : List Nat), Same H' H4 → z = lf1 gs xs x → ∃ acc, H4 D = some (.lst acc) ∧ acc.length < sizeLine ∧ (Same H (upd H4 D (.lst (acc ++ [tx z]))) ∧ upd H4 D (.lst (acc ++ [tx z])) D = some (.lst (((its.take (i + 1)).map (lf1 gs xs)).map tx))) := by
        rintro H4 z s4 rfl
        refine ⟨_, s4 _ _ hD, dl, same_put (s1.trans s4) nD, ?_⟩
        rw [upd_same, List.take_add_one, hx2]
        simp
      refine ⟨rfl, _, rfl, _, rfl, hzx, rfl, _, rfl, ?_⟩
      by_cases h1 : x.length = 1
      · rw [decide_eq_true (by rw [S_len, h1]; rfl)]
        refine iteT ⟨_, rfl, fin _ x (Same.refl _) ?_⟩
        unfold lf1
        rw [if_pos h1]
      · rw [decide_eq_false (fun e => h1 (by have := V.int.inj e; rw [S_len] at this; omega))]
        have hxp : x.length = gs.length := by
          rcases hR x hxi with ⟨c, _, rfl⟩ | p
          · exact absurd rfl h1
          · exact p.length_eq
        refine iteF ⟨_, rfl, _, rfl, _, rfl, gs, x, xs, rfl, hg.nd, by have := hg.hi; omega, hxp, hxl, hxm, fun H4 s4 => ?_⟩
        refine fin _ _ s4 ?_
        unfold lf1
        rw [if_neg h1]
    · rintro H' ⟨s1, hD⟩
      rw [List.length_map, List.take_length] at hD
      refine ⟨_, D, (its.map (lf1 gs xs)).map S, rfl, rfl, .inl (.inl (.inl ?_)), ?_, ?_⟩
      · rw [hD]
        simp
      · rw [sum_len]
        have := flat_len (f := lf1 gs xs) (m := 1000) (its := its) fun x hx => by
          unfold lf1
          split
          · omega
          · rw [List.length_map]; exact hxl
        show _ + _ * 0 ≤ _
        omega
      · rw [joinT, lf_eq hg hR]
        exact q _ s1
abbrev sQu : Stmt := topS 32
theorem scQu : FnScope ["letters", "size", "letter"] ["letters", "size"] (defScope sQu) := ⟨rfl, rfl, rfl, by decide +kernel, rfl, by decide +kernel, by decide +kernel⟩
theorem ok_qu {f f1 : Addr} {fd fd1 : FuncData} (F : Fun K "question" "question" sQu f fd) (c1 : Cl P w K mg base "check_letters" 1 ["letters"] spCLn f1 fd1) :
    FnOk P w K mg base CX0 2 f fd ["letters", "size"] spQu := by
  refine F.ok scQu (fun vs H Q E h => ?_) (fun cdv A outer s H vs Q E hr h => ?_)
  · obtain ⟨gs, n, rfl, _⟩ := h
    rfl
  · obtain ⟨gs, n, rfl, hg, hn, q⟩ := h
    refine ⟨_, pss_cons (ps_expr (pe_cl c1 hr (by decide) (by rfl) (pa_cons (pv 0) pa_nil)))
      (pss_one (ps_ret (pe_join pe_str (pe_lc (own := [("letter", 2)]) (g := gName 2) (tt := tYes) rfl scQu.nd (pi_str (pv 0))
        (blkOk_by (N := ["letters", "size", "letter"]) (sc := defScope sQu) (by decide +kernel))
        (fun _ _ _ _ _ => pg_name (i := 2) scQu.nd rfl (Or.inl rfl)) (fun _ _ _ _ _ => pts_nil)
        (fun _ _ _ _ _ => pe_op op_repS (pv 2) (pe_op op_add (pv 1) pe_int)))))), ?_⟩
    refine ⟨_, rfl, gs, rfl, hg, fun H1 s1 => ?_⟩
    refine ⟨⟨_, rfl⟩, _, rfl, _, rfl, fun D nD => ?_⟩
    exact q_lc hg hn nD (fun c H' k hk => ⟨rfl, _, rfl, _, rfl, _, _, rfl, rfl, hk⟩) fun H' s2 hD => q_join (s1.trans s2) hD hg hn q
abbrev sTA : Stmt := topS 33
theorem scTA : FnScope ["letters", "asked", "answer", "at", "piece", "step", "turn"] ["letters", "asked", "answer", "at"] (defScope sTA) := ⟨rfl, rfl, rfl, by decide +kernel, rfl, by decide +kernel, by decide +kernel⟩
theorem ok_ta {f f1 f2 : Addr} {fd fd1 fd2 : FuncData} (F : Fun K "turn_at" "turn_at" sTA f fd) (ml : mg "len" = none) (c1 : Cl P w K mg base "is_turn" 1 ["letters", "turn"] spIs f1 fd1) (c2 : Cl P w K mg base "turned" 2 ["letters", "turn", "text"] spTd f2 fd2) :
    FnOk P w K mg base CX0 3 f fd ["letters", "asked", "answer", "at"] spTA := by
  refine F.ok scTA (fun vs H Q E h => ?_) (fun cdv A outer s H vs Q E hr h => ?_)
  · obtain ⟨gs, pre, z, M, rfl, _⟩ := h
    rfl
  · obtain ⟨gs, pre, z, M, rfl, hg, hM, hM2, hl, hm, qy, qn⟩ := h
    refine ⟨_, pss_cons (ps_set (i := 4) scTA.nd rfl (.inl rfl) (pe_slice C8.sl_txt (pv 2) (po_some (pv 3)) (po_some (pe_op op_add (pv 3) (pe_callB call_len_str (by rfl) ml PySem.boot_len (pa_cons (pv 1) pa_nil))))))
      (pss_cons (ps_set (i := 5) scTA.nd rfl (.inl rfl) (pe_op op_fdiv (pe_callB call_len_str (by rfl) ml PySem.boot_len (pa_cons (pv 1) pa_nil)) (pe_callB call_len_str (by rfl) ml PySem.boot_len (pa_cons (pv 0) pa_nil))))
      (pss_cons (ps_set (i := 6) scTA.nd rfl (.inl rfl) (pe_stp (pv 4) (pv 5)))
      (pss_cons (ps_if (PW.pt (pw_and (pt_val (pe_cl c1 hr (by decide) (by rfl) (pa_cons (pv 0) (pa_cons (pv 6) pa_nil)))) (pw_and1 (pt_cmpR op_eq (pe_cl c2 hr (by decide) (by rfl) (pa_cons (pv 0) (pa_cons (pv 6) (pa_cons (pv 1) pa_nil)))) (pv 4) (nomark _)))))
        (pss_one (ps_ret (pv 6))) pss_nil)
      (pss_one (ps_ret pe_non))))), ?_⟩
    have hlo := hg.lo
    have hhi := hg.hi
    have ql := qL_len M gs
    have qb : M * gs.length ≤ 201 * 4 := Nat.mul_le_mul hM2 hhi
    have zq : (S (qL gs M)).length ≤ sizeLine := by rw [S_len]; exact small (by omega)
    have zg : (S gs).length ≤ sizeLine := by rw [S_len]; exact small (by omega)
    have za : (S (pre ++ z)).length ≤ sizeLine := by rw [S_len]; exact small hl
    refine ⟨_, rfl, _, rfl, _, rfl, _, rfl, _, rfl, _, rfl, zq, _, _, rfl, rfl, _, rfl, _, rfl, za, ?_⟩
    have e1 : Txt.slice (S (pre ++ z)) (some (pre.length : Int)) (some ((pre.length : Int) + ((S (qL gs M)).length : Int))) = S (z.take (M * gs.length)) := by
      rw [S_len, ql, show (pre.length : Int) + ((M * gs.length : Nat) : Int) = ((pre.length + M * gs.length : Nat) : Int) by omega, slice_mid]
      congr 1
      rw [List.take_append, List.drop_append, List.drop_eq_nil_of_le (by rw [List.length_take]; omega), List.nil_append, List.length_take]
      rw [show pre.length + M * gs.length - pre.length = M * gs.length by omega, show pre.length - min (pre.length + M * gs.length) pre.length = 0 by omega, List.drop_zero]
    rw [e1]
    refine ⟨_, rfl, _, rfl, zq, _, rfl, _, rfl, zg, _, _, rfl, rfl, ⟨by rw [S_len]; omega, by rw [S_len]; omega⟩, ?_⟩
    have e2 : ((S (qL gs M)).length : Int) / ((S gs).length : Int) = (M : Int) := by
      rw [S_len, S_len, ql, Int.natCast_mul]
      exact Int.mul_ediv_cancel _ (by omega)
    dsimp only
    rw [e2]
    have pl : (z.take (M * gs.length)).length ≤ 804 := by rw [List.length_take]; omega
    refine ⟨_, rfl, _, rfl, _, rfl, _, M, rfl, rfl, hM, by omega, ?_⟩
    have tl : (evr M (z.take (M * gs.length))).length < 64 := by
      refine Nat.lt_of_le_of_lt evr_len ?_
      have h1 : (z.take (M * gs.length)).length + M - 1 ≤ (M - 1) + M * gs.length := by rw [List.length_take]; omega
      refine Nat.lt_of_le_of_lt (Nat.div_le_div_right h1) ?_
      rw [Nat.add_mul_div_left _ _ hM, Nat.div_eq_of_lt (by omega)]
      omega
    have low : ∀ c ∈ gs, c < 128 := fun c hc => by have := hg.az c hc; omega
    refine ⟨_, rfl, _, rfl, gs, _, rfl, by omega, tl, low, (fun c hc => low c (hm c (List.mem_of_mem_take (evr_mem hc)))), fun H1 s1 => ?_⟩
    refine ⟨_, rfl, ?_⟩
    by_cases hp : (evr M (z.take (M * gs.length))).Perm gs
    · rw [decide_eq_true hp]
      refine iteT ⟨_, rfl, _, rfl, _, rfl, gs, _, _, rfl, hg.nd, by omega, hp.length_eq, by omega, (fun c hc => qL_mem hc), fun H2 s2 => ?_⟩
      refine ⟨_, rfl, rfl, _, rfl, ?_⟩
      rw [qL_tau hg hp]
      by_cases he : qL (evr M (z.take (M * gs.length))) M = z.take (M * gs.length)
      · rw [decide_eq_true (by rw [he])]
        refine iteT ⟨_, rfl, qy _ hp ?_ _ (s1.trans s2)⟩
        rw [he]
        exact List.take_prefix _ _
      · rw [decide_eq_false (fun e => he (S_inj (V.str.inj e)))]
        refine iteF (qn (fun t pt pre => ?_) _ (s1.trans s2))
        refine he ?_
        obtain ⟨x, rfl⟩ := pre
        have e : (qL t M ++ x).take (M * gs.length) = qL t M := by rw [← pt.length_eq, ← qL_len]; exact List.take_left ..
        rw [e, evr_q hM]
    · rw [decide_eq_false hp]
      refine iteF (qn (fun t pt pre => ?_) _ s1)
      refine hp ?_
      obtain ⟨x, rfl⟩ := pre
      have e : (qL t M ++ x).take (M * gs.length) = qL t M := by rw [← pt.length_eq, ← qL_len]; exact List.take_left ..
      rw [e, evr_q hM]
      exact pt
abbrev sRT : Stmt := topS 34
theorem scRT : FnScope ["letters", "size", "answer", "asked", "row", "fixed", "at", "turn"] ["letters", "size", "answer"] (defScope sRT) := ⟨rfl, rfl, rfl, by decide +kernel, rfl, by decide +kernel, by decide +kernel⟩
theorem ok_rtn {f f1 f2 f3 f4 fI fN C CN : Addr} {fd fd1 fd2 fd3 fd4 fdI fdN : FuncData} (F : Fun K "read_template" "read_template" sRT f fd) (ml : mg "len" = none) (c1 : Cl P w K mg base "question" 2 ["letters", "size"] spQu f1 fd1)
    (c2 : Cl P w K mg base "check_text" 1 ["letters", "text"] spCk f2 fd2) (c3 : Cl P w K mg base "turn_at" 3 ["letters", "asked", "answer", "at"] spTA f3 fd3) (c4 : Cl P w K mg base "row_text" 3 ["letters", "row"] (spRt K) f4 fd4)
    (M : Mk K C fI) (gC : mg "Template" = some (.ref C)) (GI : FnOk P w K mg base CX0 4 fI fdI ["self", "letters", "text"] (spTi C)) (bI : Binds K fdI ["self", "letters", "text"] [])
    (TN : ErrC K mg "NoTemplate" CN) (FN : Fun K "__init__" "NoTemplate.__init__" sInitNT fN fdN) (bN : Binds K fdN ["self"] []) (iN : PySem.W.findIn K (.ref CN) "__init__" = some (some (.ref fN))) (tN : PySem.W.typeIn K (.ref fN) = some (.type "function")) :
    FnOk P w K mg base (L2.CX P w) 6 f fd ["letters", "size", "answer"] (spRTN C CN) := by
  have GN : FnOk P w K mg base CX0 1 fN fdN ["self"] (spI0 K CN "NoTemplate") := ok_initNT FN TN
  refine F.okX scRT (fun vs H Q E h => ?_) (fun cdv A outer s H vs Q E hr h => ?_)
  · obtain ⟨gs, ans, n, row, rfl, _⟩ := h
    rfl
  · obtain ⟨gs, ans, n, row, rfl, hg, hn, hl, hrd, hrl, q, qe⟩ := h
    refine ⟨_, pss_cons (ps_set (i := 3) scRT.nd rfl (.inl rfl) (pe_cl c1 hr (by decide) (by rfl) (pa_cons (pv 0) (pa_cons (pv 1) pa_nil))))
      (pss_cons (ps_expr (pe_cl c2 hr (by decide) (by rfl) (pa_cons (pv 0) (pa_cons (pv 2) pa_nil))))
      (pss_cons (ps_set (i := 4) scRT.nd rfl (.inl rfl) (pe_lst pa_nil))
      (pss_cons (ps_set (i := 5) scRT.nd rfl (.inl rfl) pe_int)
      (pss_cons (ps_set (i := 6) scRT.nd rfl (.inl rfl) pe_int)
      (pss_cons (ps_while (passes_of rfl) (pt_cmpR op_lt (pv 6) (pe_callB call_len_str (by rfl) ml PySem.boot_len (pa_cons (pv 2) pa_nil)) (nomark _))
        (pss_cons (ps_set (i := 7) scRT.nd rfl (.inl rfl) (pe_cl c3 hr (by decide) (by rfl) (pa_cons (pv 0) (pa_cons (pv 3) (pa_cons (pv 2) (pa_cons (pv 6) pa_nil))))))
        (pss_one (ps_if (pt_cmpR op_isN (pv 7) pe_non (nomark _))
          (pss_cons (ps_expr (pe_bm PySem.F.plainAttrs_list PySem.F.slot_list_append PySem.F.type_list_append mt_append (pv 4) (pa_cons (pe_ix ix_str (pv 2) (pv 6) (fun _ _ => rfl)) pa_nil)))
            (pss_cons (ps_aug (i := 5) scRT.nd rfl (.inl rfl) pe_int ip_add) (pss_one (ps_aug (i := 6) scRT.nd rfl (.inl rfl) pe_int ip_add))))
          (pss_cons (ps_expr (pe_bm PySem.F.plainAttrs_list PySem.F.slot_list_append PySem.F.type_list_append mt_append (pv 4) (pa_cons (pv 7) pa_nil)))
            (pss_one (ps_aug (i := 6) scRT.nd rfl (.inl rfl) (pe_callB call_len_str (by rfl) ml PySem.boot_len (pa_cons (pv 3) pa_nil)) ip_add)))))))
      (pss_cons (ps_if (pt_cmpR op_gt (pv 5) (pv 1) (nomark _)) (pss_one (ps_raise rfl (takes_of rfl rfl rfl rfl) (pmk0 TN.ox iN tN GN (hr.mono (by decide)) bN pass0 (by rfl) TN.gl))) pss_nil)
      (pss_one (ps_ret (pe_make M GI hr (by rfl) gC bI .nil pass0 (pa_cons (pv 0) (pa_cons (pe_cl c4 hr (by decide) (by rfl) (pa_cons (pv 0) (pa_cons (pv 4) pa_nil))) pa_nil))))))))))), ?_⟩
    have hlo := hg.lo
    have hhi := hg.hi
    have ql := qL_len (n + 1) gs
    have qb : (n + 1) * gs.length ≤ 201 * 4 := Nat.mul_le_mul (by omega) hhi
    have za : (S ans).length ≤ sizeLine := by rw [S_len]; exact small hl
    have zq : (S (qL gs (n + 1))).length ≤ sizeLine := by rw [S_len]; exact small (by omega)
    refine ⟨_, rfl, _, rfl, gs, n, rfl, hg, hn, fun H1 s1 => ?_⟩
    refine ⟨_, rfl, _, rfl, gs, ans, rfl, hrd.mem, fun H2 s2 => ?_⟩
    refine ⟨Nat.zero_le _, fun D nD => ?_⟩
    have s02 := s1.trans s2
    refine ⟨fun m σ H' => ∃ dn rest pre z v, row = dn ++ rest ∧ ans = pre ++ z ∧ Reads gs (n + 1) z rest ∧ σ = [some (tx gs), some (.int (n : Int)), some (tx ans), some (tx (qL gs (n + 1))), some (.ref D), some (.int (nLt dn : Nat)), some (.int (pre.length : Int)), v] ∧ Same H2 H' ∧ H' D = some (.lst (dn.map tx)) ∧ m = rest.length,
      ⟨row.length, [], row, [], ans, none, rfl, rfl, hrd, rfl, same_new nD, upd_same, rfl⟩, ?_⟩
    rintro m σ H' ⟨dn, rest, pre, z, v, e1, e2, hz, rfl, s3, hD, rfl⟩
    refine ⟨_, rfl, _, rfl, _, rfl, za, _, _, rfl, rfl, _, rfl, ?_⟩
    have el : ((S ans).length : Int) = (pre.length : Int) + (z.length : Int) := by rw [S_len, e2, List.length_append]; omega
    rw [el]
    have dl : (dn.map tx).length < sizeLine := by
      rw [List.length_map]
      have := congrArg List.length e1
      rw [List.length_append] at this
      exact small1000 (by omega)
    have hm : ∀ c ∈ z, c ∈ gs := hz.mem
    have hpz : (pre ++ z).length ≤ 1000 := by rw [← e2]; exact hl
    cases hz with
    | nil =>
      rw [decide_eq_false (by show ¬ (pre.length : Int) < (pre.length : Int) + 0; omega)]
      rw [List.append_nil] at e1
      subst e1
      refine iteF ⟨_, rfl, _, rfl, _, _, rfl, rfl, _, rfl, ?_⟩
      have hR := hrd.row
      by_cases hnl : nLt row ≤ n
      rotate_left
      · rw [decide_eq_true (by omega)]
        refine iteT ⟨Nat.zero_le _, fun a na => ⟨a, rfl, upd_same, fun dx nd ne => ⟨rfl, dx, _, upd_same, by rw [upd_ne ne, upd_same], ?_, ?_⟩⟩⟩
        · exact (after0 (C := CN) (fs := []) na nd ne).1
        · exact qe (by omega) _ _ ((s02.trans s3).trans (after0 na nd ne).2) upd_same
      rw [decide_eq_false (by omega)]
      refine iteF ?_
      show tMake C (spTi C) [] E0 (tCons (tVar 0) (tCons (tCall (spRt K) [] E0 (tCons (tVar 0) (tCons (tVar 4) tNil))) tNil)) _ H' Q
      refine tm_mk (gs := gs) (t := rTx gs row) (its := row) (fun k hk => ?_) hg (rTx_len hg hR hrl) (rd_r hlo hR) fun H5 p s5 np tm => q hnl _ p ((s02.trans s3).trans s5) (none_of (s02.trans s3) np) tm
      exact ⟨_, rfl, _, rfl, _, rfl, gs, D, row, rfl, by omega, .inl (.inl (.inl hD)), by omega, (fun x hx => by have := row_len hg hR x hx; omega), fun H1 s1 => hk _ s1⟩
    | @blank t z2 r pt hz2 =>
      have hq0 : 0 < (qL t (n + 1)).length := by rw [qL_len, pt.length_eq]; exact Nat.mul_pos (by omega) (by omega)
      rw [decide_eq_true (by rw [List.length_append]; omega)]
      refine iteT ⟨fun σ' H'' => ∃ v', σ' = [some (tx gs), some (.int (n : Int)), some (tx ans), some (tx (qL gs (n + 1))), some (.ref D), some (.int (nLt (dn ++ [t]) : Nat)), some (.int ((pre ++ qL t (n + 1)).length : Int)), v'] ∧ Same H2 H'' ∧ H'' D = some (.lst ((dn ++ [t]).map tx)),
        fun σ' H'' ⟨v', ea, eb, ec⟩ => ⟨r.length, by show _ < r.length + 1; omega, dn ++ [t], r, pre ++ qL t (n + 1), z2, v', by rw [e1]; simp, by rw [e2]; simp, hz2, ea, eb, ec, rfl⟩, ?_⟩
      refine ⟨_, rfl, _, rfl, _, rfl, _, rfl, gs, pre, qL t (n + 1) ++ z2, n + 1, by rw [e2]; rfl, hg, by omega, by omega, hpz, hm, fun u pu hu H4 s4 => ?_, fun no => absurd (List.prefix_append _ _) (no t pt)⟩
      have eu : u = t := by
        have hlen : (qL u (n + 1)).length = (qL t (n + 1)).length := by rw [qL_len, qL_len, pu.length_eq, pt.length_eq]
        obtain ⟨x, hx⟩ := hu
        have := (List.append_inj hx hlen).1
        rw [← evr_q (Nat.succ_pos n) u, ← evr_q (Nat.succ_pos n) t, this]
      subst eu
      have hD4 := s4 _ _ hD
      refine ⟨_, rfl, rfl, _, rfl, ?_⟩
      rw [decide_eq_false (fun e => by cases e)]
      refine iteF ⟨_, rfl, .inl ⟨rfl, _, .inl (.inl hD4)⟩, _, rfl, D, _, _, rfl, rfl, hD4, dl, ?_⟩
      refine ⟨_, rfl, _, rfl, _, rfl, zq, _, _, rfl, rfl, some (tx u), ?_, same_put (s3.trans s4) nD, ?_⟩
      · have hl1 : 1 < u.length := by rw [pu.length_eq]; omega
        have n1 : nLt (dn ++ [u]) = nLt dn := by rw [nLt_app, nLt_cons, if_pos hl1]; rfl
        have n2 : ((pre ++ qL u (n + 1)).length : Int) = (pre.length : Int) + ((S (qL gs (n + 1))).length : Int) := by rw [List.length_append, S_len, qL_len, qL_len, pu.length_eq]; omega
        rw [n1, n2]
        rfl
      · rw [upd_same, List.map_append]
        rfl
    | @letter c z2 r hc no hz2 =>
      rw [decide_eq_true (by rw [List.length_cons]; omega)]
      refine iteT ⟨fun σ' H'' => ∃ v', σ' = [some (tx gs), some (.int (n : Int)), some (tx ans), some (tx (qL gs (n + 1))), some (.ref D), some (.int (nLt (dn ++ [[c]]) : Nat)), some (.int ((pre ++ [c]).length : Int)), v'] ∧ Same H2 H'' ∧ H'' D = some (.lst ((dn ++ [[c]]).map tx)),
        fun σ' H'' ⟨v', ea, eb, ec⟩ => ⟨r.length, by show _ < r.length + 1; omega, dn ++ [[c]], r, pre ++ [c], z2, v', by rw [e1]; simp, by rw [e2]; simp, hz2, ea, eb, ec, rfl⟩, ?_⟩
      refine ⟨_, rfl, _, rfl, _, rfl, _, rfl, gs, pre, c :: z2, n + 1, by rw [e2]; rfl, hg, by omega, by omega, hpz, hm, (fun u pu hu => absurd hu (no u pu)), fun _ H4 s4 => ?_⟩
      have hD4 := s4 _ _ hD
      have hat : ans[pre.length]? = some c := by rw [e2]; simp
      refine ⟨_, rfl, rfl, _, rfl, ?_⟩
      rw [decide_eq_true rfl]
      refine iteT ⟨_, rfl, .inl ⟨rfl, _, .inl (.inl hD4)⟩, _, rfl, _, rfl, _, _, c, rfl, rfl, za, atI_nat hat, D, _, _, rfl, rfl, hD4, dl, ?_⟩
      refine ⟨_, rfl, _, _, rfl, rfl, _, rfl, _, _, rfl, rfl, some .non, ?_, same_put (s3.trans s4) nD, ?_⟩
      · have n1 : nLt (dn ++ [[c]]) = nLt dn + 1 := by rw [nLt_app, nLt_cons, if_neg (by show ¬ 1 < 1; omega)]; rfl
        rw [n1, List.length_append]
        rfl
      · rw [upd_same, List.map_append]
        rfl
theorem ok_quI {f f1 CI : Addr} {fd fd1 : FuncData} (F : Fun K "question" "question" sQu f fd)
    (G1 : FnOk P w K mg base (L2.CX P w) 3 f1 fd1 ["letters"] (spCL CI)) (g1 : mg "check_letters" = some (.ref f1)) (k1 : PySem.W.keepIn K (.ref f1) = true) (b1 : Binds K fd1 ["letters"] []) :
    FnOk P w K mg base (L2.CX P w) 4 f fd ["letters", "size"] (spQuI CI) := by
  refine F.okX scQu (fun vs H Q E h => ?_) (fun cdv A outer s H vs Q E hr h => ?_)
  · obtain ⟨cs, y, rfl, _⟩ := h
    rfl
  · obtain ⟨cs, y, rfl, nv, hl, q⟩ := h
    refine ⟨_, pss_cons (ps_expr (pe_call G1 hr (by rfl) g1 k1 b1 .nil (passes_call (takes_of rfl rfl rfl rfl) (fun _ _ _ _ h => h)) (pa_cons (pv 0) pa_nil))) pss_never, ?_⟩
    exact ⟨_, rfl, cs, rfl, by omega, fun hv => absurd hv nv, fun _ H1 d s1 hd => q _ _ s1 hd⟩
theorem ok_rtI {f f1 CI : Addr} {fd fd1 : FuncData} (F : Fun K "read_template" "read_template" sRT f fd)
    (G1 : FnOk P w K mg base (L2.CX P w) 4 f1 fd1 ["letters", "size"] (spQuI CI)) (g1 : mg "question" = some (.ref f1)) (k1 : PySem.W.keepIn K (.ref f1) = true) (b1 : Binds K fd1 ["letters", "size"] []) :
    FnOk P w K mg base (L2.CX P w) 5 f fd ["letters", "size", "answer"] (spRTI CI) := by
  refine F.okX scRT (fun vs H Q E h => ?_) (fun cdv A outer s H vs Q E hr h => ?_)
  · obtain ⟨cs, y, z, rfl, _⟩ := h
    rfl
  · obtain ⟨cs, y, z, rfl, nv, hl, q⟩ := h
    refine ⟨_, pss_cons (ps_set (i := 3) scRT.nd rfl (.inl rfl) (pe_call G1 hr (by rfl) g1 k1 b1 .nil (passes_call (takes_of rfl rfl rfl rfl) (fun _ _ _ _ h => h)) (pa_cons (pv 0) (pa_cons (pv 1) pa_nil)))) pss_never, ?_⟩
    exact ⟨_, rfl, _, rfl, cs, y, rfl, nv, hl, fun H1 d s1 hd => q _ _ s1 hd⟩
theorem ok_rtU {f f1 f2 CT : Addr} {fd fd1 fd2 : FuncData} (F : Fun K "read_template" "read_template" sRT f fd) (c1 : Cl P w K mg base "question" 2 ["letters", "size"] spQu f1 fd1)
    (G2 : FnOk P w K mg base (L2.CX P w) 3 f2 fd2 ["letters", "text"] (spCT CT)) (g2 : mg "check_text" = some (.ref f2)) (k2 : PySem.W.keepIn K (.ref f2) = true) (b2 : Binds K fd2 ["letters", "text"] []) :
    FnOk P w K mg base (L2.CX P w) 4 f fd ["letters", "size", "answer"] (spRTU CT) := by
  refine F.okX scRT (fun vs H Q E h => ?_) (fun cdv A outer s H vs Q E hr h => ?_)
  · obtain ⟨gs, ans, n, i, rfl, _⟩ := h
    rfl
  · obtain ⟨gs, ans, n, i, rfl, hg, hn, hb, q⟩ := h
    refine ⟨_, pss_cons (ps_set (i := 3) scRT.nd rfl (.inl rfl) (pe_cl c1 hr (by decide) (by rfl) (pa_cons (pv 0) (pa_cons (pv 1) pa_nil))))
      (pss_cons (ps_expr (pe_call G2 hr (by rfl) g2 k2 b2 .nil (passes_call (takes_of rfl rfl rfl rfl) (fun _ _ _ _ h => h)) (pa_cons (pv 0) (pa_cons (pv 2) pa_nil)))) pss_never), ?_⟩
    refine ⟨_, rfl, _, rfl, gs, n, rfl, hg, hn, fun H1 s1 => ⟨_, rfl, _, rfl, gs, ans, rfl, fun hall H' s2 => ?_, fun j c hc hn hall H' d s2 hd => ?_⟩⟩
    · obtain ⟨c, h1, h2, _⟩ := hb
      exact absurd (hall c (List.mem_of_getElem? h1)) h2
    · have e := hb.one ⟨c, hc, hn, hall⟩
      subst e
      exact q _ _ (s1.trans s2) hd
abbrev sGroup : Stmt := topS 49
theorem scGroup : FnScope ["_law_signs", "_law_turns", "_law_found", "_law_k", "_law_mine", "_law_yours", "_law_made"] ["_law_signs", "_law_turns"] (defScope sGroup) :=
  ⟨rfl, rfl, rfl, by decide +kernel, rfl, by decide +kernel, by decide +kernel⟩
theorem ok_group {f fA : Addr} {fd fdA : FuncData} (F : Fun K "_law_group" "_law_group" sGroup f fd) (mr : mg "range" = none) (ml : mg "list" = none) (ms : mg "sorted" = none)
    (CA : Cl P w K mg base "_law_after" 2 ["_law_signs", "_law_mine", "_law_yours"] spAf fA fdA) :
    FnOk P w K mg base CX0 3 f fd ["_law_signs", "_law_turns"] (spGrp K) := by
  refine F.ok scGroup (fun vs H Q E h => ?_) (fun cdv A outer s H vs Q E hr h => ?_)
  · obtain ⟨gs, ts, a, rfl, _⟩ := h
    rfl
  · obtain ⟨gs, ts, a, rfl, hS, q, nd, h4, hts, htl⟩ := h
    refine ⟨_, pss_cons (ps_set (i := 2) scGroup.nd rfl (.inl rfl) (pe_lst (pa_cons (pv 0) pa_nil)))
      (pss_cons (ps_for PassesOwn.never rfl (pi_range1 rfl mr (pa_cons pe_int pa_nil)) (pg_name (i := 3) scGroup.nd rfl (.inl rfl))
        (pss_one (ps_for PassesOwn.never rfl (pi_list (pe_callTy call_list_of (by rfl) ml (by decide +kernel) (pa_cons (pv 2) pa_nil))) (pg_name (i := 4) scGroup.nd rfl (.inl rfl))
          (pss_one (ps_for PassesOwn.never rfl (pi_list (pv 1)) (pg_name (i := 5) scGroup.nd rfl (.inl rfl))
            (pss_cons (ps_set (i := 6) scGroup.nd rfl (.inl rfl) (pe_cl CA hr (by decide) (by rfl) (pa_cons (pv 0) (pa_cons (pv 4) (pa_cons (pv 5) pa_nil)))))
            (pss_one (ps_if (pt_cmpR op_notIn_seq (pv 6) (pv 2) (by rfl))
              (pss_one (ps_expr (pe_bm PySem.F.plainAttrs_list PySem.F.slot_list_append PySem.F.type_list_append mt_append (pv 2) (pa_cons (pv 6) pa_nil)))) pss_nil))))))))
      (pss_one (ps_ret (pe_callB cr_sortedS (by rfl) ms (by decide +kernel) (pa_cons (pv 2) pa_nil))))), ?_⟩
    refine ⟨_, rfl, (by show 1 ≤ sizeLine; decide), fun p0 np0 => ?_⟩
    refine ⟨24, rfl, by decide, by decide, ?_⟩
    refine for_range (lo := 0) (n := (24 : Int).toNat)
      (fun i σ H' => ∃ fs v3 v4 v5 v6, σ = [some (tx gs), some (.ref a), some (.ref p0), v3, v4, v5, v6] ∧ Same H H' ∧ H' p0 = some (.lst (fs.map tx)) ∧
        fs.Nodup ∧ gs ∈ fs ∧ (∀ x ∈ fs, InC gs ts x) ∧ (Closed gs ts fs ∨ i + 1 ≤ fs.length))
      ⟨[gs], none, none, none, none, rfl, same_new np0, upd_same, by simp, List.mem_singleton.mpr rfl, (fun x hx => by rw [List.mem_singleton.mp hx]; exact .one), .inr (Nat.le_refl _)⟩ ?_ ?_
    · rintro i σ H1 hi ⟨fs, v3, v4, v5, v6, rfl, s1, hp0, ndf, hg, hin, hcl⟩
      have pf : ∀ l : List (List Nat), (∀ x ∈ l, InC gs ts x) → l.Nodup → l.length ≤ 24 := fun l hl n => perms_few nd h4 n fun x hx => (hl x hx).perm nd hts
      have hfl := pf fs hin ndf
      refine ⟨_, rfl, p0, _, rfl, .inl (.inl (.inl hp0)), fun c nc => ?_⟩
      have ncp : p0 ≠ c := ne_of_none hp0 nc
      refine ⟨c, rfl, ⟨_, .inl (.inl upd_same)⟩, for_list (K := K) (a := c) (xs := fs.map tx)
        (fun j σ H' => ∃ gs' v4 v5 v6, σ = [some (tx gs), some (.ref a), some (.ref p0), some (.int (0 + (i : Int))), v4, v5, v6] ∧ Same H H' ∧ H' c = some (.lst (fs.map tx)) ∧
          H' p0 = some (.lst (gs'.map tx)) ∧ gs'.Nodup ∧ (∀ x ∈ gs', InC gs ts x) ∧ (∀ x ∈ fs, x ∈ gs') ∧ fs.length ≤ gs'.length ∧ (∀ m x, m < j → fs[m]? = some x → ∀ t ∈ ts, x.map (tau gs t) ∈ gs') ∧
          (Closed gs ts fs → gs' = fs))
        ⟨fs, _, _, _, rfl, s1.trans (same_new nc), upd_same, by rw [upd_ne ncp]; exact hp0, ndf, hin, (fun _ h => h), Nat.le_refl _, (fun m x h => absurd h (Nat.not_lt_zero _)), fun _ => rfl⟩
        (fun j σ H' _ ⟨_, _, _, _, _, _, e, _⟩ => .inl (.inl e)) ?_ ?_⟩
      · rintro j y σ H2 hj ⟨g2, w4, w5, w6, rfl, s2, hc2, hp2, nd2, in2, sub2, le2, don2, cl2⟩
        obtain ⟨x, hx, rfl⟩ := get_tx hj
        have hxf : x ∈ fs := List.mem_of_getElem? hx
        have px := (hin x hxf).perm nd hts
        refine ⟨_, rfl, a, rfl, ⟨_, s2.seq hS⟩, for_list (K := K) (a := a) (xs := ts.map tx)
          (fun l σ H' => ∃ gs' v5 v6, σ = [some (tx gs), some (.ref a), some (.ref p0), some (.int (0 + (i : Int))), some (tx x), v5, v6] ∧ Same H H' ∧ H' c = some (.lst (fs.map tx)) ∧
            H' p0 = some (.lst (gs'.map tx)) ∧ gs'.Nodup ∧ (∀ x ∈ gs', InC gs ts x) ∧ (∀ x ∈ g2, x ∈ gs') ∧ g2.length ≤ gs'.length ∧ (∀ m t, m < l → ts[m]? = some t → x.map (tau gs t) ∈ gs') ∧
            (Closed gs ts fs → gs' = fs))
          ⟨g2, _, _, rfl, s2, hc2, hp2, nd2, in2, (fun _ h => h), Nat.le_refl _, (fun m x h => absurd h (Nat.not_lt_zero _)), cl2⟩
          (fun j σ H' _ ⟨_, _, _, _, s, _⟩ => s.seq hS) ?_ ?_⟩
        · rintro l y σ H3 hl ⟨g3, u5, u6, rfl, s3, hc3, hp3, nd3, in3, sub3, le3, don3, cl3⟩
          obtain ⟨t, ht, rfl⟩ := get_tx hl
          have htm : t ∈ ts := List.mem_of_getElem? ht
          have pt := hts t htm
          have h3l := pf g3 in3 nd3
          refine ⟨_, rfl, _, rfl, _, rfl, _, _, _, rfl, gs, t, x, rfl, nd, by omega, pt.length_eq, by rw [px.length_eq]; omega, (fun c hc => px.mem_iff.mp hc), fun H4 s4 => ?_⟩
          refine ⟨_, rfl, _, rfl, p0, _, rfl, .inl (.inl (.inl (s4 _ _ hp3))), rfl, flats _, ?_⟩
          show ∃ k, V.bl (!inV (tx (x.map (tau gs t))) (g3.map tx)) = V.bl k ∧ _
          refine ⟨_, rfl, ?_⟩
          rw [inV_S]
          have step : ∀ (g4 : List (List Nat)), (∀ z ∈ g3, z ∈ g4) → x.map (tau gs t) ∈ g4 → ∀ m t', m < l + 1 → ts[m]? = some t' → x.map (tau gs t') ∈ g4 := fun g4 hs hm m t' hlt ht' => by
            by_cases e : m = l
            · rw [e, ht] at ht'
              rw [← Option.some.inj ht']
              exact hm
            · exact hs _ (don3 m t' (by omega) ht')
          refine ite2 (fun hn => ?_) (fun hn => ?_)
          · have hn2 : x.map (tau gs t) ∉ g3 := fun h => by
              rw [decide_eq_true h] at hn
              cases hn
            refine ⟨_, rfl, .inl ⟨rfl, _, .inl (.inl (s4 _ _ hp3))⟩, _, rfl, p0, _, _, rfl, rfl, s4 _ _ hp3, by rw [List.length_map]; exact small1000 (by omega), ?_⟩
            refine ⟨g3 ++ [x.map (tau gs t)], _, _, rfl, same_put (s3.trans s4) np0, ?_, ?_, ?_, ?_, ?_, ?_, ?_, ?_⟩
            · rw [upd_ne ncp.symm]
              exact s4 _ _ hc3
            · rw [upd_same, List.map_append]
              rfl
            · refine List.nodup_append.mpr ⟨nd3, by simp, fun z hz z' hz' e => ?_⟩
              rw [List.mem_singleton.mp hz'] at e
              rw [e] at hz
              exact hn2 hz
            · intro z hz
              rcases List.mem_append.mp hz with h | h
              · exact in3 z h
              · rw [List.mem_singleton.mp h]
                exact .step (hin x hxf) htm
            · exact fun z hz => List.mem_append_left _ (sub3 z hz)
            · rw [List.length_append]
              omega
            · exact step _ (fun z hz => List.mem_append_left _ hz) (List.mem_append_right _ (List.mem_singleton.mpr rfl))
            · intro hC
              exfalso
              refine hn2 ?_
              rw [cl3 hC]
              exact hC x hxf t htm
          · have hy : x.map (tau gs t) ∈ g3 := by
              refine Decidable.byContradiction fun h => hn ?_
              rw [decide_eq_false h]
              rfl
            exact ⟨g3, _, _, rfl, s3.trans s4, s4 _ _ hc3, s4 _ _ hp3, nd3, in3, sub3, le3, step g3 (fun _ h => h) hy, cl3⟩
        · rintro σ H3 ⟨g3, u5, u6, rfl, s3, hc3, hp3, nd3, in3, sub3, le3, don3, cl3⟩
          rw [List.length_map] at don3
          refine ⟨g3, _, _, _, rfl, s3, hc3, hp3, nd3, in3, (fun z hz => sub3 z (sub2 z hz)), by omega, fun m z hm hz t ht => ?_, cl3⟩
          by_cases e : m = j
          · rw [e, hx] at hz
            rw [← Option.some.inj hz]
            obtain ⟨m', hm'⟩ := List.mem_iff_getElem?.mp ht
            exact don3 m' t (List.getElem?_eq_some_iff.mp hm').1 hm'
          · exact sub3 _ (don2 m z (by omega) hz t ht)
      · rintro σ H2 ⟨g2, w4, w5, w6, rfl, s2, hc2, hp2, nd2, in2, sub2, le2, don2, cl2⟩
        rw [List.length_map] at don2
        refine ⟨g2, _, _, _, _, rfl, s2, hp2, nd2, sub2 _ hg, in2, ?_⟩
        by_cases hC : Closed gs ts fs
        · rw [cl2 hC]
          exact .inl hC
        · refine .inr ?_
          have hlt : i + 1 ≤ fs.length := hcl.resolve_left hC
          have hne : fs.length ≠ g2.length := fun e => by
            apply hC
            intro x hx t ht
            obtain ⟨m, hm⟩ := List.mem_iff_getElem?.mp hx
            have h1 := don2 m x (List.getElem?_eq_some_iff.mp hm).1 hm t ht
            refine Decidable.byContradiction fun hno => ?_
            have h2 := len_sub (x.map (tau gs t) :: fs) g2 (List.nodup_cons.mpr ⟨hno, ndf⟩) fun z hz => by
              rcases List.mem_cons.mp hz with e | e
              · rw [e]; exact h1
              · exact sub2 z e
            rw [List.length_cons] at h2
            omega
          omega
    · rintro σ H1 ⟨fs, v3, v4, v5, v6, rfl, s1, hp0, ndf, hg, hin, hcl⟩
      have hfl : fs.length ≤ 24 := perms_few nd h4 ndf fun x hx => (hin x hx).perm nd hts
      have hC : Closed gs ts fs := hcl.resolve_right fun h => by
        have h' : 24 + 1 ≤ fs.length := h
        omega
      refine ⟨_, rfl, p0, fs.map S, rfl, .inl (.inl (by rw [hp0, List.map_map]; rfl)), by rw [List.length_map]; omega, fun ys p perm srt np => ?_⟩
      obtain ⟨cs, rfl, C⟩ := Clo.of ndf hg hC hin perm srt
      refine q _ p cs (s1.trans (same_new np)) (s1.free np) ?_ C
      rw [upd_same, List.map_map]
      rfl
end
end Own

namespace Own
open PySem PySem.Spec PyProof.Rows L2 SX RZ
section
variable {P : Program} {w : World} {K : PySem.W.Frag} {mg : Str → Option Value} {base : Heap}
theorem ne_nil {D2 : Addr} {hs : List (List Nat)} {σ : L2.St} {G : Hp} {i : Nat} {k : Bool → Hp → Prop} (h : σ[i]? = some (some (.ref D2))) (hD : G D2 = some (.lst (hs.map tx))) (pl : ∀ x ∈ hs, ∀ k ∈ x, k < 128) (q : ∀ G', Same G G' → k (!decide (hs = [])) G') :
    tTest (tOp (rNeD K) (tVar i) (tLst tNil)) σ G k := by
  refine ⟨_, h, Nat.zero_le _, fun l nl => ?_⟩
  have s := same_new (o := .lst []) nl
  refine ⟨_, _, .lst (.inl (.inl (s _ _ hD))) (dp_allT hs), .lst (.inl (.inl upd_same)) .nil, shp_tx pl, by decide +kernel, ?_⟩
  rw [show PyData.eqv (.list (hs.map fun c => PyData.str (S c))) (.list []) = decide (hs = []) from eqvAll_tx hs []]
  exact ⟨_, rfl, q _ s⟩
theorem eq_nil {D2 : Addr} {hs : List (List Nat)} {σ : L2.St} {G : Hp} {i : Nat} {Q : VK} (h : σ[i]? = some (some (.ref D2))) (hD : G D2 = some (.lst (hs.map tx))) (pl : ∀ x ∈ hs, ∀ k ∈ x, k < 128) (q : ∀ G', Same G G' → Q (.bl (decide (hs = []))) G') :
    tOp (rEqD K) (tVar i) (tLst tNil) σ G Q := by
  refine ⟨_, h, Nat.zero_le _, fun l nl => ?_⟩
  have s := same_new (o := .lst []) nl
  refine ⟨_, _, .lst (.inl (.inl (s _ _ hD))) (dp_allT hs), .lst (.inl (.inl upd_same)) .nil, shp_tx pl, by decide +kernel, ?_⟩
  rw [show PyData.eqv (.list (hs.map fun c => PyData.str (S c))) (.list []) = decide (hs = []) from eqvAll_tx hs []]
  exact q _ s
abbrev sRo : Stmt := topS 50
abbrev roN : List Str := ["_law_signs", "_law_size", "_law_shown", "_law_turns", "_law_asked", "_law_items_here", "_law_at", "_law_many", "_law_sign", "_law_k", "_law_hits", "_law_mine"]
theorem scRo : FnScope roN ["_law_signs", "_law_size", "_law_shown", "_law_turns"] (defScope sRo) := ⟨rfl, rfl, rfl, by decide +kernel, rfl, by decide +kernel, by decide +kernel⟩
theorem ok_ro {f f1 : Addr} {fd fd1 : FuncData} (F : Fun K "_law_read_off" "_law_read_off" sRo f fd) (ml : mg "len" = none) (mr : mg "range" = none) (mi : mg "int" = none)
    (c1 : Cl P w K mg base "_law_turned" 1 ["_law_signs", "_law_my_turn", "_law_shown"] spTd f1 fd1) :
    FnOk P w K mg base CX0 2 f fd ["_law_signs", "_law_size", "_law_shown", "_law_turns"] (spRo K) := by
  refine F.ok scRo (fun vs H Q E h => ?_) (fun cdv A outer s H vs Q E hr h => ?_)
  · obtain ⟨gs, ans, n, L, cs, row, rfl, _⟩ := h
    rfl
  · obtain ⟨gs, ans, n, L, cs, row, rfl, hg, hn, hl, hS, hcl, hcs, hrd, q, q0⟩ := h
    refine ⟨_, pss_cons (ps_asg (pe_tup (pa_cons (pe_join pe_str (pe_lc (own := [("_law_sign", 8)]) (g := gName 8) (tt := tYes) rfl scRo.nd (pi_str (pv 0))
          (blkOk_by (N := roN) (sc := defScope sRo) (by decide +kernel))
          (fun _ _ _ _ _ => pg_name (i := 8) scRo.nd rfl (Or.inl rfl)) (fun _ _ _ _ _ => pts_nil)
          (fun _ _ _ _ _ => pe_op op_repS (pv 8) (pe_op op_add (pv 1) pe_int)))) (pa_cons (pe_lst pa_nil) (pa_cons pe_int (pa_cons pe_int pa_nil)))))
        (pg_tup rfl (pgs_cons (pg_name (i := 4) scRo.nd rfl (by first | exact .inl rfl | exact .inr rfl)) (pgs_cons (pg_name (i := 5) scRo.nd rfl (by first | exact .inl rfl | exact .inr rfl)) (pgs_cons (pg_name (i := 6) scRo.nd rfl (by first | exact .inl rfl | exact .inr rfl)) (pgs_cons (pg_name (i := 7) scRo.nd rfl (by first | exact .inl rfl | exact .inr rfl)) pgs_nil))))))
      (pss_cons (ps_for PassesOwn.never rfl (pi_range1 rfl mr (pa_cons (pe_callB call_len_str (by rfl) ml PySem.boot_len (pa_cons (pv 2) pa_nil)) pa_nil)) (pg_name (i := 9) scRo.nd rfl (by first | exact .inl rfl | exact .inr rfl))
        (pss_one (ps_if (pt_cmpR op_lt (pv 6) (pe_callB call_len_str (by rfl) ml PySem.boot_len (pa_cons (pv 2) pa_nil)) (nomark _))
          (pss_cons (ps_setLc (i := 10) (own := [("_law_mine", 11)]) (g := gName 11) (tt := tB (tBM K "str" (fun x xs H Q => ∃ (a b : Str) (i : Int), x = .str a ∧ xs = [.str b, .int i] ∧ Q (.bl (Txt.startswith3 a b i)) H) (tVar 2) (tCons (tCall spTd [] E0 (tCons (tVar 0) (tCons (tVar 11) (tCons (tVar 4) tNil)))) (tCons (tVar 6) tNil)))) rfl scRo.nd rfl rfl (sw_true rfl rfl rfl (by decide +kernel)) (pi_list (pv 3))
              (blkOk_by (N := roN) (sc := defScope sRo) (by decide +kernel))
              (fun _ _ _ _ _ => pg_name (i := 11) scRo.nd rfl (Or.inl rfl))
              (fun _ _ _ _ _ => pts_one (pt_val (pe_bm PySem.F.plainAttrs_str PySem.F.slot_str_startswith PySem.F.type_str_startswith mt_startswith3 (pv 2)
                (pa_cons (pe_cl c1 hr (by decide) (by rfl) (pa_cons (pv 0) (pa_cons (pv 11) (pa_cons (pv 4) pa_nil)))) (pa_cons (pv 6) pa_nil)))))
              (fun _ _ _ _ _ => pv 11))
          (pss_cons (ps_expr (pe_bm PySem.F.plainAttrs_list PySem.F.slot_list_append PySem.F.type_list_append mt_append (pv 5) (pa_cons
              (pe_ifExp (pt_cmpR (op_neD hr.units) (pv 10) (pe_lst pa_nil) (nomark _)) (pe_ix ix_list (pv 10) pe_int (fun _ _ => rfl)) (pe_ix ix_str (pv 2) (pv 6) (fun _ _ => rfl))) pa_nil)))
          (pss_one (ps_asg (pe_tup (pa_cons (pe_op op_add (pv 6) (pe_ifExp (pt_cmpR (op_neD hr.units) (pv 10) (pe_lst pa_nil) (nomark _)) (pe_callB call_len_str (by rfl) ml PySem.boot_len (pa_cons (pv 4) pa_nil)) pe_int))
              (pa_cons (pe_op op_add (pv 7) (pe_callTy call_int1 (by rfl) mi (by decide +kernel) (pa_cons (pe_cmpR (op_eqD hr.units) (pv 10) (pe_lst pa_nil) (nomark _)) pa_nil))) pa_nil)))
            (pg_tup rfl (pgs_cons (pg_name (i := 6) scRo.nd rfl (by first | exact .inl rfl | exact .inr rfl)) (pgs_cons (pg_name (i := 7) scRo.nd rfl (by first | exact .inl rfl | exact .inr rfl)) pgs_nil))))))) pss_nil)))
      (pss_one (ps_ret (pe_ifExp (pt_cmpR op_le (pv 7) (pv 1) (nomark _)) (pv 5) pe_non)))), ?_⟩
    have hlo := hg.lo
    have hhi := hg.hi
    have low : ∀ c ∈ gs, c < 128 := fun c hc => by have := hg.az c hc; omega
    have ql := qL_len (n + 1) gs
    have qb : (n + 1) * gs.length ≤ 201 * 4 := Nat.mul_le_mul (by omega) hhi
    have za : (S ans).length ≤ sizeLine := by rw [S_len]; exact small (by omega)
    have zq : (S (qL gs (n + 1))).length ≤ sizeLine := by rw [S_len]; exact small (by omega)
    refine ⟨⟨_, rfl⟩, _, rfl, _, rfl, fun D nD => ?_⟩
    refine q_lc hg hn nD (fun c H' k hk => ⟨rfl, _, rfl, _, rfl, _, _, rfl, rfl, hk⟩) fun H1 s1 hD => ?_
    obtain ⟨aa, pp, ys, e1, e2, e3, e4, e5⟩ := q_join (K := K) (Q := fun x _ => x = tx (qL gs (n + 1))) s1 hD hg hn fun _ _ => rfl
    refine ⟨aa, pp, ys, e1, e2, e3, e4, ?_⟩
    rw [e5]
    clear e1 e2 e3 e4 e5
    refine ⟨Nat.zero_le _, fun p np => ⟨(by show 4 ≤ sizeLine; decide), fun t nt => ⟨t, _, rfl, .inl (.inl upd_same), rfl, _, _, rfl, _, _, rfl, _, _, rfl, _, _, rfl, rfl, ?_⟩⟩⟩
    have s2 := same_new (o := .tup [tx (qL gs (n + 1)), .ref p, .int 0, .int 0]) nt
    refine ⟨_, rfl, _, rfl, za, _, rfl, by rw [S_len]; omega, by rw [S_len]; omega, ?_⟩
    refine for_range (lo := 0) (n := (((S ans).length : Nat) : Int).toNat)
      (fun i σ H' => ∃ dn rest pre z v8 v9 v10 v11, row = dn ++ rest ∧ ans = pre ++ z ∧ Reads gs (n + 1) z rest ∧
        σ = [some (tx gs), some (.int (n : Int)), some (tx ans), some (.ref L), some (tx (qL gs (n + 1))), some (.ref p), some (.int (pre.length : Int)), some (.int (nLt dn : Nat)), v8, v9, v10, v11] ∧
        Same H1 H' ∧ H' p = some (.lst (dn.map tx)) ∧ i ≤ pre.length)
      ⟨[], row, [], ans, none, none, none, none, rfl, rfl, hrd, rfl, (same_new np).trans s2, s2 _ _ upd_same, Nat.le_refl _⟩ ?_ ?_
    · rintro i σ H' hi ⟨dn, rest, pre, z, v8, v9, v10, v11, e1, e2, hz, rfl, s3, hp, hip⟩
      have el : ((S ans).length : Int) = (pre.length : Int) + (z.length : Int) := by rw [S_len, e2, List.length_append]; omega
      have rl := hrd.len hg (Nat.succ_pos n)
      have dl : (dn.map tx).length < sizeLine := by
        rw [List.length_map]
        have := congrArg List.length e1
        rw [List.length_append] at this
        exact small1000 (by omega)
      refine ⟨_, rfl, _, rfl, _, rfl, za, _, _, rfl, rfl, _, rfl, ?_⟩
      rw [el]
      by_cases hz0 : z = []
      · subst hz0
        rw [decide_eq_false (by show ¬ (pre.length : Int) < (pre.length : Int) + 0; omega)]
        rw [List.append_nil] at e2
        refine iteF ⟨dn, rest, pre, [], _, _, _, _, e1, by rw [List.append_nil]; exact e2, hz, rfl, s3, hp, ?_⟩
        rw [e2, S_len, Int.toNat_natCast] at hi
        exact hi
      have hzl : 0 < z.length := List.length_pos_iff.mpr hz0
      rw [decide_eq_true (by omega)]
      refine iteT ⟨_, rfl, L, rfl, ⟨_, (s1.trans s3).seq hS⟩, fun D2 nD2 => ?_⟩
      have hpl : pre.length ≤ ans.length := by rw [e2, List.length_append]; omega
      have hdr : ans.drop pre.length = z := by rw [e2]; exact List.drop_left ..
      refine lc_list (K := K) (a := L) (xs := cs.map tx) (fun j G => Same H' G ∧ G D2 = some (.lst (((cs.take j).filter fun u => decide (qL u (n + 1) <+: z)).map tx))) ⟨same_new nD2, upd_same⟩ (fun _ _ _ h => ((s1.trans s3).trans h.1).seq hS) ?_ ?_
      · rintro j y G hy ⟨sa, hD2⟩
        obtain ⟨u, hu, rfl⟩ := get_tx hy
        have pu := (hcs u).mp (List.mem_of_getElem? hu)
        refine ⟨rfl, _, rfl, rfl, _, rfl, _, rfl, _, rfl, gs, u, qL gs (n + 1), rfl, hg.nd, by omega, pu.length_eq, by omega, (fun c hc => qL_mem hc), fun G1 s4 => ?_⟩
        refine ⟨_, rfl, _, _, _, rfl, rfl, _, rfl, ?_⟩
        rw [qL_tau hg pu, sw3 hpl, hdr]
        have hD3 := s4 _ _ hD2
        have ek : (cs.take (j + 1)).filter (fun u => decide (qL u (n + 1) <+: z)) = (cs.take j).filter (fun u => decide (qL u (n + 1) <+: z)) ++ (if decide (qL u (n + 1) <+: z) = true then [u] else []) := by
          rw [List.take_add_one, hu, List.filter_append]
          show _ ++ List.filter _ [u] = _
          rw [List.filter_cons]
          rfl
        refine ite2 (fun h => ?_) (fun h => ?_)
        · refine ⟨_, rfl, _, hD3, ?_, same_put (sa.trans s4) nD2, ?_⟩
          · rw [List.length_map]
            refine small1000 (Nat.le_trans (List.length_filter_le ..) ?_)
            rw [List.length_take]
            omega
          · rw [upd_same, ek, if_pos h, List.map_append]
            rfl
        · refine ⟨sa.trans s4, ?_⟩
          rw [ek, if_neg h, List.append_nil]
          exact hD3
      · rintro G ⟨sa, hD2⟩
        rw [List.length_map, List.take_length] at hD2
        have hsl : (cs.filter fun u => decide (qL u (n + 1) <+: z)).length ≤ 900 := Nat.le_trans (List.length_filter_le ..) hcl
        have hsm : ∀ u, u ∈ (cs.filter fun u => decide (qL u (n + 1) <+: z)) ↔ u.Perm gs ∧ qL u (n + 1) <+: z := fun u => by
          rw [List.mem_filter, hcs, decide_eq_true_eq]
        generalize (cs.filter fun u => decide (qL u (n + 1) <+: z)) = hs at hD2 hsl hsm
        have pl : ∀ x ∈ hs, ∀ k ∈ x, k < 128 := fun x hx k hk => low k (((hsm x).mp hx).1.mem_iff.mp hk)
        have hpG := sa _ _ hp
        refine ⟨_, rfl, .inl ⟨rfl, _, .inl (.inl hpG)⟩, ?_⟩
        refine ne_nil rfl hD2 pl fun G1 s4 => ?_
        have hD3 := s4 _ _ hD2
        have hp3 := s4 _ _ hpG
        cases hz with
        | nil => exact absurd rfl hz0
        | @blank t z2 r pt hz2 =>
          have ht : t ∈ hs := (hsm t).mpr ⟨pt, List.prefix_append ..⟩
          have hall : ∀ u ∈ hs, u = t := fun u hu => q_inj (Nat.succ_pos n) pt ((hsm u).mp hu).1 ((hsm u).mp hu).2
          cases hs with
          | nil => cases ht
          | cons u hs =>
            have eu := hall u (List.mem_cons_self ..)
            subst eu
            refine iteT ⟨_, rfl, D2, _, 0, _, rfl, rfl, .inl (.inl hD3), atI_nat (j := 0) rfl, p, _, _, rfl, rfl, hp3, dl, ?_⟩
            have hne : D2 ≠ p := fun e => by
              rw [e] at nD2
              rw [nD2] at hp
              cases hp
            have hD4 : (upd G1 p (.lst (dn.map tx ++ [tx u]))) D2 = some (.lst ((u :: hs).map tx)) := by
              rw [upd_ne hne]
              exact hD3
            refine ⟨_, rfl, ?_⟩
            refine ne_nil rfl hD4 pl fun G2 s5 => iteT ⟨_, rfl, _, rfl, zq, _, _, rfl, rfl, _, rfl, ?_⟩
            refine eq_nil rfl (s5 _ _ hD4) pl fun G3 s6 => .inr ⟨_, rfl, _, _, rfl, rfl, ?_⟩
            refine ⟨(by show 2 ≤ sizeLine; decide), fun t2 nt2 => ⟨t2, _, rfl, .inl (.inl upd_same), rfl, _, _, rfl, _, _, rfl, rfl, ?_⟩⟩
            have s7 := same_new (o := .tup [.int ((pre.length : Int) + ((S (qL gs (n + 1))).length : Int)), .int (((nLt dn : Nat) : Int) + (if decide (u :: hs = []) = true then 1 else 0))]) nt2
            have hl1 : 1 < u.length := by rw [pt.length_eq]; omega
            have n1 : nLt (dn ++ [u]) = nLt dn := by rw [nLt_app, nLt_cons, if_pos hl1]; rfl
            have n2 : ((pre ++ qL u (n + 1)).length : Int) = (pre.length : Int) + ((S (qL gs (n + 1))).length : Int) := by rw [List.length_append, S_len, qL_len, qL_len, pt.length_eq]; omega
            have hq0 : 0 < (qL u (n + 1)).length := by rw [qL_len, pt.length_eq]; exact Nat.mul_pos (by omega) (by omega)
            refine ⟨dn ++ [u], r, pre ++ qL u (n + 1), z2, v8, some (.int (0 + (i : Int))), some (.ref D2), v11, by rw [e1]; simp, by rw [e2]; simp, hz2, ?_, ((same_put ((s3.trans sa).trans s4) np).trans (s5.trans s6)).trans s7, ?_, by rw [List.length_append]; omega⟩
            · rw [n1, n2, decide_eq_false (List.cons_ne_nil u hs)]
              have e0 : ((nLt dn : Nat) : Int) = ((nLt dn : Nat) : Int) + 0 := by omega
              rw [e0]
              rfl
            · refine (((s5.trans s6).trans s7) _ _ upd_same).trans ?_
              rw [List.map_append]
              rfl
        | @letter c z2 r hc no hz2 =>
          have hnil : hs = [] := by
            cases hs with
            | nil => rfl
            | cons u hs =>
              have hu := (hsm u).mp (List.mem_cons_self ..)
              exact absurd hu.2 (no u hu.1)
          subst hnil
          have hat : ans[pre.length]? = some c := by rw [e2]; simp
          refine iteF ⟨_, rfl, _, rfl, _, _, c, rfl, rfl, za, atI_nat hat, p, _, _, rfl, rfl, hp3, dl, ?_⟩
          have hne : D2 ≠ p := fun e => by
            rw [e] at nD2
            rw [nD2] at hp
            cases hp
          have hD4 : (upd G1 p (.lst (dn.map tx ++ [tx [c]]))) D2 = some (.lst (([] : List (List Nat)).map tx)) := by
            rw [upd_ne hne]
            exact hD3
          refine ⟨_, rfl, ?_⟩
          refine ne_nil rfl hD4 pl fun G2 s5 => iteF ⟨_, _, rfl, rfl, _, rfl, ?_⟩
          refine eq_nil rfl (s5 _ _ hD4) pl fun G3 s6 => .inr ⟨_, rfl, _, _, rfl, rfl, ?_⟩
          refine ⟨(by show 2 ≤ sizeLine; decide), fun t2 nt2 => ⟨t2, _, rfl, .inl (.inl upd_same), rfl, _, _, rfl, _, _, rfl, rfl, ?_⟩⟩
          have s7 := same_new (o := .tup [.int ((pre.length : Int) + 1), .int (((nLt dn : Nat) : Int) + (if decide (([] : List (List Nat)) = []) = true then 1 else 0))]) nt2
          have n1 : nLt (dn ++ [[c]]) = nLt dn + 1 := by rw [nLt_app, nLt_cons, if_neg (by show ¬ 1 < 1; omega)]; rfl
          refine ⟨dn ++ [[c]], r, pre ++ [c], z2, v8, some (.int (0 + (i : Int))), some (.ref D2), v11, by rw [e1]; simp, by rw [e2]; simp, hz2, ?_, ((same_put ((s3.trans sa).trans s4) np).trans (s5.trans s6)).trans s7, ?_, by rw [List.length_append]; show _ ≤ _ + 1; omega⟩
          · rw [n1, List.length_append, decide_eq_true rfl]
            rfl
          · refine (((s5.trans s6).trans s7) _ _ upd_same).trans ?_
            rw [List.map_append]
            rfl
    · rintro σ H' ⟨dn, rest, pre, z, v8, v9, v10, v11, e1, e2, hz, rfl, s3, hp, hip⟩
      have hz0 : z = [] := by
        rw [S_len, Int.toNat_natCast, e2, List.length_append] at hip
        exact List.length_eq_zero_iff.mp (by omega)
      subst hz0
      have hrl := hz.len hg (Nat.succ_pos n)
      have hr0 : rest = [] := List.length_eq_zero_iff.mp (Nat.le_zero.mp hrl)
      subst hr0
      rw [List.append_nil] at e1
      subst e1
      refine ⟨_, rfl, _, rfl, _, _, rfl, rfl, _, rfl, ?_⟩
      by_cases h : nLt row ≤ n
      · rw [decide_eq_true (by omega)]
        exact iteT ⟨_, rfl, q h _ p (s1.trans s3) (none_of s1 np) hp⟩
      · rw [decide_eq_false (by omega)]
        exact iteF (q0 (by omega) _ (s1.trans s3))
end
end Own

namespace Own
open PySem PySem.Spec PyProof.Rows L2 SX
abbrev sLaw : Stmt := topS 51
abbrev lawN : List Str := ["_law_script", "_law_rng", "_law_turn_here", "_law_good", "_law_size", "_law_turns", "_law_asked", "_law_shown", "_law_at", "_law_sign", "_law_early", "_law_late", "_law_some", "_law_due", "_law_told", "_law_asks", "_law_dues", "_law_ask"]
theorem scLaw : FnScope lawN ["_law_script"] (defScope sLaw) := ⟨rfl, rfl, rfl, by decide +kernel, rfl, by decide +kernel, by decide +kernel⟩
def spLaw (K : PySem.W.Frag) (Pt : Addr) : Sp := fun vs H Q _ => ∃ (a : Addr) (ns : List Int), vs = [.ref a] ∧ SqL K H a (ns.map V.int) ∧ H Pt = some (.tbl #[]) ∧ ∀ H', Q (.bl true) H'
/-- what is due, and what is told of read_template -/
def DueA (H : Hp) (v : V) (row : List (List Nat)) (n : Nat) : Prop := (nLt row ≤ n ∧ ∃ p, v = .ref p ∧ H p = some (.lst (row.map tx))) ∨ (n < nLt row ∧ v = .non)
def ToldA (C : Addr) (H : Hp) (t : Addr) (gs : List Nat) (row : List (List Nat)) (n : Nat) : Prop :=
  (nLt row ≤ n ∧ ∃ m, H t = some (.tup [.str (Str.ofString "value"), .ref m]) ∧ Tm C H m gs row) ∨ (n < nLt row ∧ H t = some (.tup [.str (Str.ofString "NoTemplate"), .non]))
theorem DueA.ext {H H' : Hp} {v : V} {row : List (List Nat)} {n : Nat} (h : DueA H v row n) (e : LamX.ExtN H H') : DueA H' v row n :=
  h.imp (fun ⟨h1, p, h2, h3⟩ => ⟨h1, p, h2, e _ _ h3 fun ps z => by cases z⟩) id
theorem DueA.same {H H' : Hp} {v : V} {row : List (List Nat)} {n : Nat} (h : DueA H v row n) (s : Same H H') : DueA H' v row n := h.ext (Same.extN s)
theorem ToldA.same {C : Addr} {H H' : Hp} {t : Addr} {gs : List Nat} {row : List (List Nat)} {n : Nat} (h : ToldA C H t gs row n) (s : Same H H') : ToldA C H' t gs row n :=
  h.imp (fun ⟨h1, m, h2, h3⟩ => ⟨h1, m, s _ _ h2, h3.same s⟩) fun ⟨h1, h2⟩ => ⟨h1, s _ _ h2⟩
theorem ro_one {K : PySem.W.Frag} {H : Hp} {σ : L2.St} {Q : VK} {gs ans : List Nat} {n : Nat} {L : Addr} {cs row : List (List Nat)} (h3 : σ[3]? = some (some (tx gs))) (h4 : σ[4]? = some (some (.int (n : Int)))) (h7 : σ[7]? = some (some (tx ans))) (h5 : σ[5]? = some (some (.ref L)))
    (hg : Good gs) (hn : n ≤ 200) (hl : ans.length ≤ 900) (hS : SqL K H L (cs.map tx)) (hcl : cs.length ≤ 900) (hcs : ∀ x, x ∈ cs ↔ x.Perm gs) (hr : Reads gs (n + 1) ans row)
    (q : ∀ v H', Same H H' → DueA H' v row n → Q v H') : tCall (spRo K) [] E0 (tCons (tVar 3) (tCons (tVar 4) (tCons (tVar 7) (tCons (tVar 5) tNil)))) σ H Q :=
  ⟨_, h3, _, h4, _, h7, _, h5, gs, ans, n, L, cs, row, rfl, hg, hn, hl, hS, hcl, hcs, hr, fun h H' p s _ hp => q _ _ s (.inl ⟨h, p, rfl, hp⟩), fun h H' s => q _ _ s (.inr ⟨h, rfl⟩)⟩
theorem lam_rt {K : PySem.W.Frag} {mg : Str → Option Value} {T : List (Addr × Str)} {CF CM CN C : Addr} {H : Hp} {σ : L2.St} {Q : VK} {gs ans : List Nat} {n : Nat} {row : List (List Nat)}
    (EN : ErrC K mg "NoTemplate" CN) (xN : PySem.W.exmAny K (.ref CN) [.ref CF, .ref CM] = some true) (hT : LamX.Tabs T H) (hg : Good gs) (hn : n ≤ 200) (hl : ans.length ≤ 160) (hr : Reads gs (n + 1) ans row)
    (h3 : σ[3]? = some (some (tx gs))) (h4 : σ[4]? = some (some (.int (n : Int)))) (h7 : σ[7]? = some (some (tx ans)))
    (q : ∀ H' t, LamX.ExtN H H' → LamX.Tabs T H' → ToldA C H' t gs row n → Q (.ref t) H') :
    LamX.tLam T (TryN K CF CM) (fun E => tCall (spRTN C CN) [] E (tCons (tVar 3) (tCons (tVar 4) (tCons (tVar 7) tNil)))) σ H Q := by
  refine ⟨hT, fun H1 e1 t1 => ?_⟩
  have rl := hr.len hg (Nat.succ_pos n)
  refine ⟨_, h3, _, h4, _, h7, gs, ans, n, row, rfl, hg, hn, by omega, hr, by omega, fun hc H2 m s2 nm tm => ⟨by decide, fun t nt => ?_⟩, fun hc H2 d s2 hd => ⟨xN, _, _, errN_0 EN hd fl_nt, fun H3 t s3 nt => ?_⟩⟩
  · have s3 := s2.trans (same_new (o := .tup [.str (Str.ofString "value"), .ref m]) nt)
    exact q _ t (e1.trans (Same.extN s3)) (tabs_same t1 s3) (.inl ⟨hc, m, upd_same, tm.same (same_new nt)⟩)
  · have s4 := (s2.trans s3).trans (same_new (o := .tup [.str (Str.ofString "NoTemplate"), .non]) nt)
    exact q _ t (e1.trans (Same.extN s4)) (tabs_same t1 s4) (.inr ⟨hc, upd_same⟩)
theorem sh_nt : SeqAt.shaped (.tuple [.str (Str.ofString "NoTemplate"), .none]) = true := by decide +kernel
theorem test1 {K : PySem.W.Frag} {C t : Addr} {H : Hp} {σ : L2.St} {Q : Bool → Hp → Prop} {gs : List Nat} {row : List (List Nat)} {n : Nat} {v : V} (du : DueA H v row n) (td : ToldA C H t gs row n)
    (h13 : σ[13]? = some (some v)) (h14 : σ[14]? = some (some (.ref t))) (q : ∀ H', Same H H' → Q false H') :
    tOr (tAnd (tTest (tOp (fun x y H Q => y = V.non ∧ Q (V.bl (decide (x = V.non))) H) (tVar 13) (tC V.non))) (tTest (tOp (rNeD K) (tVar 14) (tTup (tCons (tC (V.str (Str.ofString "NoTemplate"))) (tCons (tC V.non) tNil))))))
      (tAnd (tTest (tOp (fun x y H Q => y = V.non ∧ Q (V.bl (!decide (x = V.non))) H) (tVar 13) (tC V.non))) (tTest (tOp rNe (tOp (rIxT K) (tVar 14) (tC (V.int 0))) (tC (V.str (Str.ofString "value")))))) σ H Q := by
  rcases td with ⟨h1, m, h2, h3⟩ | ⟨h1, h2⟩
  · rcases du with ⟨g1, p, rfl, hp⟩ | ⟨g1, _⟩
    · refine ⟨_, h13, rfl, false, rfl, iteF (iteF ⟨_, h13, rfl, true, rfl, iteT ?_⟩)⟩
      refine ⟨_, h14, t, _, _, _, rfl, rfl, .inl (.inl h2), atI_nat (xs := [V.str (Str.ofString "value"), V.ref m]) (j := 0) rfl, rfl, false, ?_, q _ (Same.refl _)⟩
      rw [decide_eq_true rfl]
      rfl
    · exact absurd g1 (by omega)
  · rcases du with ⟨g1, p, rfl, hp⟩ | ⟨g1, rfl⟩
    · exact absurd g1 (by omega)
    · refine ⟨_, h13, rfl, true, rfl, iteT ⟨_, h14, (by show 2 ≤ sizeLine; decide), fun t1 nt1 => ?_⟩⟩
      have s1 := same_new (o := .tup [.str (Str.ofString "NoTemplate"), .non]) nt1
      refine ⟨_, _, .tup (.inl (.inl (s1 _ _ h2))) (.cons (.str _) (.cons .non .nil)), .tup (.inl (.inl upd_same)) (.cons (.str _) (.cons .non .nil)), sh_nt, sh_nt, ?_⟩
      rw [eq_two sh_nt]
      exact ⟨false, rfl, iteF ⟨_, h13, rfl, false, rfl, iteF (q _ s1)⟩⟩
theorem test2 {K : PySem.W.Frag} {C t : Addr} {H : Hp} {σ : L2.St} {Q : Bool → Hp → Prop} {gs ans : List Nat} {row : List (List Nat)} {n : Nat} {v : V} (hg : Good gs) (hn : n ≤ 200) (hl : ans.length ≤ 160) (hr : Reads gs (n + 1) ans row) (du : DueA H v row n) (td : ToldA C H t gs row n)
    (h6 : σ[6]? = some (some (tx (qL gs (n + 1))))) (h7 : σ[7]? = some (some (tx ans))) (h13 : σ[13]? = some (some v)) (h14 : σ[14]? = some (some (.ref t))) (q : ∀ H', Same H H' → Q false H') :
    tAnd (tTest (tOp (fun x y H Q => y = V.non ∧ Q (V.bl (!decide (x = V.non))) H) (tVar 13) (tC V.non))) (tNot (tB (tCall (spSm K 3) [] E0 (tCons (tLst (tCons (tMeth C (Str.ofString "row") (spRow C) [] E0 (tOp (rIxT K) (tVar 14) (tC (V.int 1))) tNil) (tCons (tMeth C (Str.ofString "fill") (spFi C) [] E0 (tOp (rIxT K) (tVar 14) (tC (V.int 1))) (tCons (tVar 6) tNil)) tNil))) (tCons (tLst (tCons (tVar 13) (tCons (tVar 7) tNil))) tNil))))) σ H Q := by
  have rl := hr.len hg (Nat.succ_pos n)
  have ql := qL_len (n + 1) gs
  have qb : (n + 1) * gs.length ≤ 201 * 4 := Nat.mul_le_mul (by omega) hg.hi
  rcases du with ⟨g1, p, rfl, hp⟩ | ⟨g1, rfl⟩
  · rcases td with ⟨h1, m, h2, h3⟩ | ⟨h1, h2⟩
    · obtain ⟨dx, _, hm, _⟩ := id h3
      refine ⟨_, h13, rfl, true, rfl, iteT ?_⟩
      refine ⟨_, h14, t, _, _, _, rfl, rfl, .inl (.inl h2), atI_nat (xs := [V.str (Str.ofString "value"), V.ref m]) (j := 1) rfl, m, dx, _, rfl, hm, rfl, m, gs, row, rfl, h3, fun H1 l1 s1 nl1 hl1 => ?_⟩
      have h31 := h3.same s1
      refine ⟨_, h14, t, _, _, _, rfl, rfl, .inl (.inl (s1 _ _ h2)), atI_nat (xs := [V.str (Str.ofString "value"), V.ref m]) (j := 1) rfl, m, dx, _, rfl, s1 _ _ hm, rfl, _, h6, m, gs, row, _, rfl, h31, hg, hr.row, by omega, by omega, (fun c hc => qL_mem hc), fun H2 s2 => ?_⟩
      rw [hr.fill hg]
      refine ⟨(by show 2 ≤ sizeLine; decide), fun L1 nL1 => ?_⟩
      have s3 := same_new (o := .lst [V.ref l1, tx ans]) nL1
      refine ⟨_, h13, _, h7, (by show 2 ≤ sizeLine; decide), fun L2 nL2 => ?_⟩
      have s4 := same_new (o := .lst [V.ref p, tx ans]) nL2
      refine ⟨_, _, rfl, eqd_two (K := K) (n := 1) (s4 _ _ upd_same) upd_same (Eqd.lst (n := 0) (((s2.trans s3).trans s4) _ _ hl1) ((s1.trans ((s2.trans s3).trans s4)) _ _ hp) (by rw [List.length_map]; omega) (flat_tx _)) (Eqd.refl (n := 1) trivial), fun H5 s5 => ⟨true, rfl, ?_⟩⟩
      exact q _ ((s1.trans ((s2.trans s3).trans s4)).trans s5)
    · exact absurd g1 (by omega)
  · exact ⟨_, h13, rfl, false, rfl, iteF (q _ (Same.refl _))⟩
/-- what is due of the three calls -/
def dueV (n : Int) : Nat → List V
  | 0 => [.str (Str.ofString "UnknownLetter"), .int n]
  | _ => [.str (Str.ofString "InvalidLetters"), .non]
def dueD (n : Int) : PyData := .list [.tuple [.str (Str.ofString "UnknownLetter"), .int n], .tuple [.str (Str.ofString "InvalidLetters"), .none], .tuple [.str (Str.ofString "InvalidLetters"), .none]]
theorem due_sh (n : Int) : SeqAt.shaped (dueD n) = true := by
  unfold dueD SeqAt.shaped
  have a : PyData.canLay0 (.str (Str.ofString "InvalidLetters")) = true := by decide +kernel
  have b : PyData.canLay0 (.str (Str.ofString "UnknownLetter")) = true := by decide +kernel
  show (((PyData.canLay0 (.str (Str.ofString "UnknownLetter")) && (PyData.canLay0 (.int n) && PyData.canLayAll0 [])) && ((PyData.canLay0 (.str (Str.ofString "InvalidLetters")) && (PyData.canLay0 .none && PyData.canLayAll0 [])) &&
    ((PyData.canLay0 (.str (Str.ofString "InvalidLetters")) && (PyData.canLay0 .none && PyData.canLayAll0 [])) && PyData.canLayAll0 []))) && _) = true
  rw [a, b]
  rfl
theorem due_dp {K : PySem.W.Frag} {H : Hp} {D t0 t1 t2 : Addr} {n : Int} (hD : H D = some (.lst [.ref t0, .ref t1, .ref t2])) (h0 : H t0 = some (.tup (dueV n 0))) (h1 : H t1 = some (.tup (dueV n 1))) (h2 : H t2 = some (.tup (dueV n 2))) : Dp K H (.ref D) (dueD n) :=
  .lst (.inl (.inl hD)) (.cons (.tup (.inl (.inl h0)) (.cons (.str _) (.cons (.int _) .nil))) (.cons (.tup (.inl (.inl h1)) (.cons (.str _) (.cons .non .nil))) (.cons (.tup (.inl (.inl h2)) (.cons (.str _) (.cons .non .nil))) .nil)))
/-! a list written anew: lambdas, tables and the drawer stay -/
theorem ext_put {H H' : Hp} {A : Addr} {o o' : HO} (e : LamX.ExtN (upd H A o) H') (n : H A = none) : LamX.ExtN H (upd H' A o') := fun b u h hu => by
  have hb : b ≠ A := ne_of_none h n
  rw [upd_ne hb]
  exact e b u (by rw [upd_ne hb]; exact h) hu
theorem tabs_put {T : List (Addr × Str)} {H : Hp} {A : Addr} {xs ys : List V} (t : LamX.Tabs T H) (h : H A = some (.lst xs)) : LamX.Tabs T (upd H A (.lst ys)) := by
  intro p hp
  obtain ⟨ps, h1, h2, h3⟩ := t p hp
  refine ⟨ps, by rw [upd_ne (ne_of h1 h fun z => by cases z)]; exact h1, h2, fun pos cv hc => ?_⟩
  obtain ⟨c, e1, e2⟩ := h3 pos cv hc
  exact ⟨c, e1, by rw [upd_ne (ne_of e2 h fun z => by unfold LamX.CodeO at z; cases z)]; exact e2⟩
theorem lam_put {H : Hp} {f A : Addr} {F : LF} {xs ys : List V} (l : LamAt H f F) (h : H A = some (.lst xs)) : LamAt (upd H A (.lst ys)) f F :=
  ⟨by rw [upd_ne (ne_of l.fn h fun z => by unfold LamO at z; cases z)]; exact l.fn, by rw [upd_ne (ne_of l.code h fun z => by unfold LamX.CodeO at z; cases z)]; exact l.code, fun t v e => by rw [upd_ne (ne_of (l.dflt t v e) h fun z => by cases z)]; exact l.dflt t v e⟩

section
variable {P : Program} {w : World} {K : PySem.W.Frag} {mg : Str → Option Value} {base : Heap}
variable {f1 f2 f3 f4 f5 f6 f7 f8 f9 f10 fR fF fS fT fP fY CF CM CI CT CN C c Pt : Addr} {fd1 fd2 fd3 fd4 fd5 fd6 fd7 fd8 fd9 fd10 fdR fdF fdS fdT fdP fdY : FuncData}
theorem ok_law {f : Addr} {kV doc pm ct oc : Value} {an od : Option Addr} {osl : Array (Option Value)}
    (lk : K.lookup f = some ⟨oc, od, .func (PySem.W.fnOf "law" "law" (defArgs sLaw) (defBody sLaw) (defScope sLaw) .none kV doc pm an (.ref c) ct), osl⟩) (hcd : PySem.W.codeIn K (.ref c) "law" = true)
    (TB : LamX.TabB base mg c Pt)
    (mr : mg "range" = none) (ml : mg "len" = none) (T : TmC K C)
    (cDs : Cl P w K mg base "_law_draws" 1 ["_law_script"] (spDraws K) f1 fd1)
    (cLt : Cl P w K mg base "_law_letters" 3 ["_law_rng", "_law_most"] spLetters f2 fd2)
    (cDr : Cl P w K mg base "_law_draw" 1 ["_law_rng", "_law_sides"] spDraw f3 fd3)
    (cGp : Cl P w K mg base "_law_group" 3 ["_law_signs", "_law_turns"] (spGrp K) f4 fd4)
    (cQu : Cl P w K mg base "question" 2 ["letters", "size"] spQu f5 fd5)
    (cLf : Cl P w K mg base "_law_fill" 2 ["_law_signs", "_law_items_here", "_law_shown"] (spLf K) f6 fd6)
    (cIt : Cl P w K mg base "_law_items" 3 ["_law_rng", "_law_signs", "_law_most"] spItems f7 fd7)
    (cPk : Cl P w K mg base "_law_pick" 2 ["_law_rng", "_law_things"] (spPick K) f8 fd8)
    (cWd : Cl P w K mg base "_law_word" 3 ["_law_rng", "_law_signs", "_law_most"] spWord f9 fd9)
    (cRo : Cl P w K mg base "_law_read_off" 2 ["_law_signs", "_law_size", "_law_shown", "_law_turns"] (spRo K) f10 fd10)
    (cSm : Cl P w K mg base "_law_same" 3 ["_law_found", "_law_due"] (spSm K 3) fS fdS)
    (mR : Meth K C "row" fR) (GR : FnOk P w K mg base CX0 1 fR fdR ["self"] (spRow C)) (bR : Binds K fdR ["self"] [])
    (mF' : Meth K C "fill" fF) (GF : FnOk P w K mg base CX0 5 fF fdF ["self", "text"] (spFi C)) (bF : Binds K fdF ["self", "text"] [])
    (GRN : FnOk P w K mg base (L2.CX P w) 6 fT fdT ["letters", "size", "answer"] (spRTN C CN)) (GRI : FnOk P w K mg base (L2.CX P w) 5 fT fdT ["letters", "size", "answer"] (spRTI CI)) (GRU : FnOk P w K mg base (L2.CX P w) 4 fT fdT ["letters", "size", "answer"] (spRTU CT))
    (gRT : mg "read_template" = some (.ref fT)) (kRT : PySem.W.keepIn K (.ref fT) = true) (bRT : Binds K fdT ["letters", "size", "answer"] [])
    (GQI : FnOk P w K mg base (L2.CX P w) 4 f5 fd5 ["letters", "size"] (spQuI CI)) (gQ : mg "question" = some (.ref f5)) (kQ : PySem.W.keepIn K (.ref f5) = true) (bQ : Binds K fd5 ["letters", "size"] [])
    (mF : mg "FillError" = some (.ref CF)) (mM : mg "Missing" = some (.ref CM))
    (FP : FnP P w K mg base 1 fP fdP ["_law_e"] (spFldN K)) (gP : mg "_law_field" = some (.ref fP)) (kP : PySem.W.keepIn K (.ref fP) = true) (bP : Binds K fdP ["_law_e"] [])
    (FY : Fun K "_law_try" "_law_try" sTry fY fdY) (gY : mg "_law_try" = some (.ref fY)) (bY : Binds K fdY ["_law_ask"] [])
    (EI : ErrC K mg "InvalidLetters" CI) (xI : PySem.W.exmAny K (.ref CI) [.ref CF, .ref CM] = some true) (ET : ErrC K mg "UnknownLetter" CT) (xT : PySem.W.exmAny K (.ref CT) [.ref CF, .ref CM] = some true) (EN : ErrC K mg "NoTemplate" CN) (xN : PySem.W.exmAny K (.ref CN) [.ref CF, .ref CM] = some true) :
    FnOk P w K mg base CX0 9 f (PySem.W.fnOf "law" "law" (defArgs sLaw) (defBody sLaw) (defScope sLaw) .none kV doc pm an (.ref c) ct) ["_law_script"] (spLaw K Pt) := by
  obtain ⟨ocY, odY, kVY, docY, pmY, anY, cdY, ctY, oslY, rfl, lkY, hcY⟩ := FY.ex
  refine fn_of lk hcd scLaw (fun vs H Q E h => ?_) (fun A outer s H vs Q E hr h => ?_)
  · obtain ⟨a, ns, rfl, _⟩ := h
    rfl
  · obtain ⟨a, ns, rfl, hS, hPt, q⟩ := h
    refine ⟨_, pss_cons (ps_set (i := 1) scLaw.nd rfl (by first | exact .inl rfl | exact .inr rfl) (pe_cl cDs hr (by decide) (by rfl) (pa_cons (pv 0) pa_nil)))
      (pss_cons (ps_for (passes_of rfl) rfl (pi_range1 rfl mr (pa_cons pe_int pa_nil)) (pg_name (i := 2) scLaw.nd rfl (.inl rfl))
        (pss_cons (ps_asg (pe_tup (pa_cons (pe_cl cLt hr (by decide) (by rfl) (pa_cons (pv 1) (pa_cons pe_int pa_nil))) (pa_cons (pe_cl cDr hr (by decide) (by rfl) (pa_cons (pv 1) (pa_cons pe_int pa_nil))) pa_nil))) (pg_tup rfl (pgs_cons (pg_name (i := 3) scLaw.nd rfl (by first | exact .inl rfl | exact .inr rfl)) (pgs_cons (pg_name (i := 4) scLaw.nd rfl (by first | exact .inl rfl | exact .inr rfl)) pgs_nil))))
        (pss_cons (ps_set (i := 5) scLaw.nd rfl (by first | exact .inl rfl | exact .inr rfl) (pe_cl cGp hr (by decide) (by rfl) (pa_cons (pv 3) (pa_cons (pe_lst (pa_cons (pe_op op_add_str (pe_op op_add_str (pe_ix ix_str (pv 3) pe_int (fun _ _ => rfl)) (pe_ix ix_str (pv 3) pe_int (fun _ _ => rfl))) (pe_slice C8.sl_txt (pv 3) (po_some pe_int) po_none)) (pa_cons (pe_op op_add_str (pe_slice C8.sl_txt (pv 3) (po_some pe_int) po_none) (pe_ix ix_str (pv 3) pe_int (fun _ _ => rfl))) pa_nil))) pa_nil))))
        (pss_cons (ps_set (i := 6) scLaw.nd rfl (by first | exact .inl rfl | exact .inr rfl) (pe_cl cQu hr (by decide) (by rfl) (pa_cons (pv 3) (pa_cons (pv 4) pa_nil))))
        (pss_cons (ps_set (i := 7) scLaw.nd rfl (by first | exact .inl rfl | exact .inr rfl) (pe_cl cLf hr (by decide) (by rfl) (pa_cons (pv 3) (pa_cons (pe_cl cIt hr (by decide) (by rfl) (pa_cons (pv 1) (pa_cons (pv 3) (pa_cons pe_int pa_nil)))) (pa_cons (pv 6) pa_nil)))))
        (pss_cons (ps_set (i := 8) scLaw.nd rfl (by first | exact .inl rfl | exact .inr rfl) (pe_cl cDr hr (by decide) (by rfl) (pa_cons (pv 1) (pa_cons (pe_op op_add (pe_callB call_len_str (by rfl) ml PySem.boot_len (pa_cons (pv 7) pa_nil)) pe_int) pa_nil))))
        (pss_cons (ps_set (i := 9) scLaw.nd rfl (by first | exact .inl rfl | exact .inr rfl) (pe_cl cPk hr (by decide) (by rfl) (pa_cons (pv 1) (pa_cons (pv 3) pa_nil))))
        (pss_cons (ps_par (i := 10) (j := 11) (by rfl) scLaw.nd rfl rfl (by decide) rfl rfl (pa_cons (pe_slice C8.sl_txt (pv 7) po_none (po_some (pv 8))) (pa_cons (pe_slice C8.sl_txt (pv 7) (po_some (pv 8)) po_none) pa_nil)) (by rfl))
        (pss_cons (ps_set (i := 12) scLaw.nd rfl (by first | exact .inl rfl | exact .inr rfl) (pe_lst (pa_cons (pv 7) (pa_cons (pe_op op_add_str (pe_op op_add_str (pv 10) (pv 9)) (pv 11)) (pa_cons (pe_op op_add_str (pv 10) (pe_slice C8.sl_txt (pv 11) (po_some pe_int) po_none)) (pa_cons (pe_op op_add_str (pe_op op_add_str (pv 10) (pv 9)) (pe_slice C8.sl_txt (pv 11) (po_some pe_int) po_none)) pa_nil))))))
        (pss_cons (ps_set (i := 7) scLaw.nd rfl (by first | exact .inl rfl | exact .inr rfl) (pe_cl cPk hr (by decide) (by rfl) (pa_cons (pv 1) (pa_cons (pe_op op_cat (pv 12) (pe_lst (pa_cons (pe_cl cWd hr (by decide) (by rfl) (pa_cons (pv 1) (pa_cons (pv 3) (pa_cons pe_int pa_nil)))) (pa_cons (pv 10) pa_nil)))) pa_nil))))
        (pss_cons (ps_set (i := 13) scLaw.nd rfl (by first | exact .inl rfl | exact .inr rfl) (pe_cl cRo hr (by decide) (by rfl) (pa_cons (pv 3) (pa_cons (pv 4) (pa_cons (pv 7) (pa_cons (pv 5) pa_nil))))))
        (pss_cons (ps_set (i := 14) scLaw.nd rfl (by first | exact .inl rfl | exact .inr rfl) (LamX.pe_lamcall (T := [(Pt, (envOfC "law" (defScope sLaw) 0 f (.ref c)).qual ++ "<lambda>")]) (TT := TryN K CF CM) (t := fun E => tCall (spRTN C CN) [] E (tCons (tVar 3) (tCons (tVar 4) (tCons (tVar 7) tNil)))) (k := 6) (by rfl) gY FY.kp lkY hcY bY scTry rfl (Or.inl rfl) (try_gives mF mM FP gP kP bP (hr.mono (by decide))) TB rfl (List.Mem.head _) (fun p hp _ => by rw [List.mem_singleton.mp hp]; rfl) hr (LamX.lamS_by (by show LamX.lamSB (defScope sLaw) _ = true; decide +kernel)) rfl (fun _ _ _ _ _ => rfl) (fun A outer s H E f' c' hr2 => pe_call GRN hr2 (by rfl) gRT kRT bRT .nil (passes_call (takes_of rfl rfl rfl rfl) (fun _ _ _ _ h => h)) (pa_cons (pv 3) (pa_cons (pv 4) (pa_cons (pv 7) pa_nil))))))
        (pss_cons (ps_if (PW.pt (pw_or (PW.pt (pw_and (pt_cmpR op_isN (pv 13) pe_non (nomark _)) (pw_and1 (pt_cmpR (op_neD hr.units) (pv 14) (pe_tup (pa_cons pe_str (pa_cons pe_non pa_nil))) (nomark _))))) (pw_or1 (PW.pt (pw_and (pt_cmpR op_notN (pv 13) pe_non (nomark _)) (pw_and1 (pt_cmpR op_ne (pe_ix ix_tup (pv 14) pe_int (fun _ _ => rfl)) pe_str (nomark _)))))))) pss_never pss_nil)
        (pss_cons (ps_if (PW.pt (pw_and (pt_cmpR op_notN (pv 13) pe_non (nomark _)) (pw_and1 (pt_not (pt_val (pe_cl cSm hr (by decide) (by rfl) (pa_cons (pe_lst (pa_cons (pe_meth0 (pe_ix ix_tup (pv 14) pe_int (fun _ _ => rfl)) T.cls mR GR (hr.mono (by decide)) bR .nil pass0) (pa_cons (pe_meth (pe_ix ix_tup (pv 14) pe_int (fun _ _ => rfl)) T.cls mF' GF (hr.mono (by decide)) bF .nil pass0 (pa_cons (pv 6) pa_nil)) pa_nil))) (pa_cons (pe_lst (pa_cons (pv 13) (pa_cons (pv 7) pa_nil))) pa_nil)))))))) pss_never pss_nil)
        (pss_cons (ps_set (i := 15) scLaw.nd rfl (by first | exact .inl rfl | exact .inr rfl) (pe_lst (pa_cons (pe_lamV (T := [(Pt, (envOfC "law" (defScope sLaw) 0 f (.ref c)).qual ++ "<lambda>")]) TB rfl (List.Mem.head _) (fun p hp _ => by rw [List.mem_singleton.mp hp]; rfl) (LamN.free (lamN_by (by show lamNB lawN (defScope sLaw) _ = true; decide +kernel))) rfl) (pa_cons (pe_lamD (T := [(Pt, (envOfC "law" (defScope sLaw) 0 f (.ref c)).qual ++ "<lambda>")]) TB rfl (List.Mem.head _) (fun p hp _ => by rw [List.mem_singleton.mp hp]; rfl) (LamN.free (lamN_by (by show lamNB lawN (defScope sLaw) _ = true; decide +kernel))) pe_int) pa_nil))))
        (pss_cons (ps_expr (pe_bm PySem.F.plainAttrs_list PySem.F.slot_list_append PySem.F.type_list_append mt_append (pv 15) (pa_cons (pe_lamV (T := [(Pt, (envOfC "law" (defScope sLaw) 0 f (.ref c)).qual ++ "<lambda>")]) TB rfl (List.Mem.head _) (fun p hp _ => by rw [List.mem_singleton.mp hp]; rfl) (LamN.free (lamN_by (by show lamNB lawN (defScope sLaw) _ = true; decide +kernel))) rfl) pa_nil)))
        (pss_cons (ps_set (i := 16) scLaw.nd rfl (by first | exact .inl rfl | exact .inr rfl) (pe_lst (pa_cons (pe_tup (pa_cons pe_str (pa_cons (pe_callB call_len_str (by rfl) ml PySem.boot_len (pa_cons (pv 7) pa_nil)) pa_nil))) (pa_cons (pe_tup (pa_cons pe_str (pa_cons pe_non pa_nil))) (pa_cons (pe_tup (pa_cons pe_str (pa_cons pe_non pa_nil))) pa_nil)))))
        (pss_one (ps_if (pt_cmpR (op_neD hr.units) (pe_lcW (own := [("_law_ask", 17)]) (g := gName 17) rfl scLaw.nd (pi_list (pv 15)) (blkOk_by (N := lawN) (sc := defScope sLaw) (by decide +kernel)) (fun _ _ _ _ _ => pg_name (i := 17) scLaw.nd rfl (Or.inl rfl)) (runs_try (TT := TryN K CF CM) (k := 6) (i := 17) (fun _ _ _ _ _ => by rfl) gY FY.kp (fun _ _ _ _ _ => pv 17) lkY hcY bY scTry rfl (Or.inl rfl) (try_gives mF mM FP gP kP bP (hr.mono (by decide))) hr)) (pv 16) (nomark _)) pss_never pss_nil)))))))))))))))))))
      (pss_one (ps_ret pe_bl))), ?_⟩
    refine ⟨_, rfl, a, ns, rfl, hS, fun H1 r s1 nr R => ?_⟩
    have k1 : Keep [(Pt, (envOfC "law" (defScope sLaw) 0 f (.ref c)).qual ++ "<lambda>")] r H1 := ⟨R, fun p hp => by
      rw [List.mem_singleton.mp hp]
      exact LamX.TabS.nil (s1 _ _ hPt)⟩
    have oabA : Str.ofString "abA" = S [97, 98, 65] := by decide +kernel
    have oex : Str.ofString "!" = S [33] := by decide +kernel
    have oa : Str.ofString "a" = S [97] := by decide +kernel
    have nv1 : ¬ Valid [97, 98, 65] := fun v => absurd (v.az 65 (by decide)) (by decide)
    have nv2 : ¬ Valid [97] := fun v => absurd v.lo (by decide)
    refine ⟨6, rfl, by decide, by decide, ?_⟩
    refine for_range (lo := 0) (n := (6 : Int).toNat)
      (fun i σ H' => ∃ v2 v3 v4 v5 v6 v7 v8 v9 v10 v11 v12 v13 v14 v15 v16 v17, σ = [some (.ref a), some (.ref r), v2, v3, v4, v5, v6, v7, v8, v9, v10, v11, v12, v13, v14, v15, v16, v17] ∧ Keep [(Pt, (envOfC "law" (defScope sLaw) 0 f (.ref c)).qual ++ "<lambda>")] r H')
      ⟨none, none, none, none, none, none, none, none, none, none, none, none, none, none, none, none, rfl, k1⟩ ?_ ?_
    · rintro i σ H2 hi ⟨v2, v3, v4, v5, v6, v7, v8, v9, v10, v11, v12, v13, v14, v15, v16, v17, rfl, k2⟩
      -- good, size
      refine ⟨_, rfl, r, 3, rfl, by decide, k2.rng, fun H3 gs g3 hg h3l => ?_⟩
      have k3 := k2.go g3
      have hlo := hg.lo
      have h3 : gs.length ≤ 3 := by omega
      have zg : (S gs).length ≤ sizeLine := by rw [S_len]; exact small (by omega)
      refine ⟨_, rfl, r, 4, rfl, by decide, by decide, k3.rng, fun H4 d g4 d0 d1 => ?_⟩
      obtain ⟨n, rfl⟩ := Int.eq_ofNat_of_zero_le d0
      have hn : n ≤ 3 := by omega
      have k4 := k3.go g4
      refine ⟨(by show 2 ≤ sizeLine; decide), fun t5 nt5 => ⟨t5, _, rfl, .inl (.inl upd_same), rfl, _, _, rfl, _, _, rfl, rfl, ?_⟩⟩
      have k5 := k4.same (same_new (o := .tup [tx gs, .int (n : Int)]) nt5)
      -- turns
      obtain ⟨c0, c1, rest, egs⟩ : ∃ c0 c1 rest, gs = c0 :: c1 :: rest := by
        match gs, hlo with
        | x :: y :: z, _ => exact ⟨x, y, z, rfl⟩
      have hc0 : gs[0]? = some c0 := by rw [egs]; rfl
      have hc1 : gs[1]? = some c1 := by rw [egs]; rfl
      have f2 : Txt.slice (S gs) (some 2) none = S (gs.drop 2) := slice_from (a := gs) (i := 2) (by decide)
      have f1' : Txt.slice (S gs) (some 1) none = S (gs.drop 1) := slice_from (a := gs) (i := 1) (by decide)
      have dr2 : (gs.drop 2).length ≤ 3 := by rw [List.length_drop]; omega
      have dr1 : (gs.drop 1).length ≤ 3 := by rw [List.length_drop]; omega
      refine ⟨_, rfl, _, rfl, _, _, c1, rfl, rfl, zg, atI_nat (j := 1) hc1, _, rfl, _, _, c0, rfl, rfl, zg, atI_nat (j := 0) hc0, _, _, rfl, rfl, (by show 1 + 1 ≤ sizeLine; decide), _, rfl, _, rfl, _, rfl, zg, ?_⟩
      rw [f2]
      have q1 : (⟨#[c1]⟩ : Str) ++ ⟨#[c0]⟩ = S [c1, c0] := S_cat [c1] [c0]
      have q2 : S [c1, c0] ++ S (gs.drop 2) = S (swL gs) := by
        rw [S_cat, egs]
        rfl
      have q3 : S (gs.drop 1) ++ (⟨#[c0]⟩ : Str) = S (cyL gs) := by
        rw [show (⟨#[c0]⟩ : Str) = S [c0] from rfl, S_cat, egs]
        rfl
      refine ⟨_, _, rfl, rfl, by rw [q1, S_len, S_len]; exact small (by show 2 + _ ≤ 1000; omega), ?_⟩
      rw [q1, q2]
      refine ⟨_, rfl, _, rfl, _, rfl, zg, _, rfl, _, _, c0, rfl, rfl, zg, atI_nat (j := 0) hc0, _, _, rfl, rfl, by rw [f1', S_len]; exact small (by show _ + 1 ≤ 1000; omega), ?_⟩
      rw [f1', q3]
      refine ⟨(by show 2 ≤ sizeLine; decide), fun L6 nL6 => ?_⟩
      have s6 := same_new (o := .lst [tx (swL gs), tx (cyL gs)]) nL6
      have k6 := k5.same s6
      refine ⟨gs, [swL gs, cyL gs], L6, rfl, .inl (.inl upd_same), fun H7 Lt cs s7 nLt7 hLt C7 => ?_, hg.nd, by omega, fun t ht => ?_, (by show 2 ≤ 1000; decide)⟩
      rotate_left
      · simp only [List.mem_cons, List.not_mem_nil, or_false] at ht
        rcases ht with rfl | rfl
        · exact sw_perm _
        · exact cy_perm _
      have hcs := all_made hg h3 C7
      have hcl : cs.length ≤ 24 := perms_few hg.nd (by omega) C7.nd fun x hx => (hcs x).mp hx
      obtain ⟨xr6, er6⟩ := k6.rng.ex
      have nLr : Lt ≠ r := (ne_of_none er6 nLt7).symm
      have k7 := k6.same s7
      -- asked
      refine ⟨_, rfl, _, rfl, gs, n, rfl, hg, by omega, fun H8 s8 => ?_⟩
      have k8 := k7.same s8
      have hLt8 := s8 _ _ hLt
      have ql := qL_len (n + 1) gs
      have qb : (n + 1) * gs.length ≤ 4 * 3 := Nat.mul_le_mul (by omega) h3
      -- shown
      refine ⟨_, rfl, _, rfl, _, rfl, r, gs, 5, rfl, hg, by decide, by decide, k8.rng, fun H9 ip its g9 nip hip hR hil => ?_⟩
      have k9 := k8.go g9
      have hLt9 := g9.1 _ _ nLr hLt8
      refine ⟨_, rfl, gs, ip, its, qL gs (n + 1), rfl, hg, hR, by omega, .inl (.inl hip), by omega, (fun c hc => qL_mem hc), fun H10 s10 => ?_⟩
      have k10 := k9.same s10
      have hLt10 := s10 _ _ hLt9
      have xm := fill_mem hg hR (xs := qL gs (n + 1)) (fun c hc => qL_mem hc)
      have xl : (fillL gs its (qL gs (n + 1))).length ≤ 70 := by
        rw [fill_len hg hR, qL_len]
        have h2 := bl_lt its
        have h4 : nBl its * ((n + 1) * gs.length) ≤ 5 * (4 * 3) := Nat.mul_le_mul (by omega) qb
        omega
      generalize fillL gs its (qL gs (n + 1)) = xs at xm xl
      have zx : (S xs).length ≤ sizeLine := by rw [S_len]; exact small (by omega)
      -- at
      refine ⟨_, rfl, _, rfl, _, rfl, zx, _, _, rfl, rfl, r, _, rfl, by rw [S_len]; omega, by rw [S_len]; omega, k10.rng, fun H11 e g11 e0 e1' => ?_⟩
      obtain ⟨j, rfl⟩ := Int.eq_ofNat_of_zero_le e0
      have k11 := k10.go g11
      have hLt11 := g11.1 _ _ nLr hLt10
      -- sign
      refine ⟨_, rfl, _, rfl, r, .str (S gs), rfl, k11.rng, .inr ⟨gs, rfl, by omega, by omega, fun H12 c g12 hc => ?_⟩⟩
      have k12 := k11.go g12
      have hLt12 := g12.1 _ _ nLr hLt11
      -- early, late
      have e1 : Txt.slice (S xs) none (some (j : Int)) = S (xs.take j) := slice_to (by omega)
      have e2 : Txt.slice (S xs) (some (j : Int)) none = S (xs.drop j) := slice_from (by omega)
      refine ⟨_, rfl, _, rfl, _, rfl, _, rfl, zx, _, rfl, _, rfl, _, rfl, _, rfl, zx, _, _, rfl, ?_⟩
      rw [e1, e2]
      have t1 : (xs.take j).length ≤ 70 := by rw [List.length_take]; omega
      have t2 : (xs.drop j).length ≤ 70 := by rw [List.length_drop]; omega
      have m1 : ∀ c ∈ xs.take j, c ∈ gs := fun c hc => xm c (List.mem_of_mem_take hc)
      have m2 : ∀ c ∈ xs.drop j, c ∈ gs := fun c hc => xm c (List.mem_of_mem_drop hc)
      generalize xs.take j = ea at t1 m1
      generalize xs.drop j = la at t2 m2
      have e3 : Txt.slice (S la) (some 1) none = S (la.drop 1) := slice_from (a := la) (i := 1) (by decide)
      have t3 : (la.drop 1).length ≤ 70 := by rw [List.length_drop]; omega
      have m3 : ∀ c ∈ la.drop 1, c ∈ gs := fun c hc => m2 c (List.mem_of_mem_drop hc)
      have zl : (S la).length ≤ sizeLine := by rw [S_len]; exact small (by omega)
      -- some
      have y1 : (S ea).length + (S [c]).length ≤ sizeLine := by rw [S_len, S_len]; exact small (by show _ + 1 ≤ 1000; omega)
      have y2 : (S ea ++ S [c]).length + (S la).length ≤ sizeLine := by rw [S_cat, S_len, S_len, List.length_append]; exact small (by show _ + 1 + _ ≤ 1000; omega)
      have y3 : (S ea).length + (Txt.slice (S la) (some 1) none).length ≤ sizeLine := by rw [e3, S_len, S_len]; exact small (by omega)
      have y4 : (S ea ++ S [c]).length + (Txt.slice (S la) (some 1) none).length ≤ sizeLine := by rw [e3, S_cat, S_len, S_len, List.length_append]; exact small (by show _ + 1 + _ ≤ 1000; omega)
      refine ⟨_, rfl, ?_⟩
      refine ⟨_, rfl, _, rfl, _, _, rfl, rfl, y1, _, rfl, _, _, rfl, rfl, y2, ?_⟩
      refine ⟨_, rfl, _, rfl, _, rfl, _, rfl, zl, _, _, rfl, rfl, y3, ?_⟩
      refine ⟨_, rfl, _, rfl, _, _, rfl, rfl, y1, _, rfl, _, rfl, _, rfl, zl, _, _, rfl, rfl, y4, ?_⟩
      have w1 : S ea ++ S [c] = S (ea ++ [c]) := S_cat _ _
      have w2 : S (ea ++ [c]) ++ S la = S (ea ++ [c] ++ la) := S_cat _ _
      have w3 : S ea ++ S (la.drop 1) = S (ea ++ la.drop 1) := S_cat _ _
      have w4 : S (ea ++ [c]) ++ S (la.drop 1) = S (ea ++ [c] ++ la.drop 1) := S_cat _ _
      rw [e3, w1, w2, w3, w4]
      refine ⟨(by show 4 ≤ sizeLine; decide), fun Ls nLs => ?_⟩
      have s13 := same_new (o := .lst [tx xs, tx (ea ++ [c] ++ la), tx (ea ++ la.drop 1), tx (ea ++ [c] ++ la.drop 1)]) nLs
      have k13 := k12.same s13
      have hLt13 := s13 _ _ hLt12
      obtain ⟨xr12, er12⟩ := k12.rng.ex
      have nLsr : Ls ≠ r := (ne_of_none er12 nLs).symm
      -- shown
      refine ⟨_, rfl, _, rfl, _, rfl, _, rfl, r, gs, 8, rfl, by omega, by omega, by decide, by decide, k13.rng, fun H14 wd g14 wm wl => ?_⟩
      have k14 := k13.go g14
      have hLt14 := g14.1 _ _ nLr hLt13
      have hLs14 := g14.1 _ _ nLsr (upd_same (H := H12) (a := Ls) (o := .lst [tx xs, tx (ea ++ [c] ++ la), tx (ea ++ la.drop 1), tx (ea ++ [c] ++ la.drop 1)]))
      refine ⟨_, rfl, (by show 2 ≤ sizeLine; decide), fun Lw nLw => ?_⟩
      have s15 := same_new (o := .lst [tx wd, tx ea]) nLw
      refine ⟨Ls, Lw, _, _, rfl, rfl, s15 _ _ hLs14, upd_same, (by show 6 ≤ sizeLine; decide), fun Lx nLx => ?_⟩
      have s16 := same_new (o := .lst ([tx xs, tx (ea ++ [c] ++ la), tx (ea ++ la.drop 1), tx (ea ++ [c] ++ la.drop 1)] ++ [tx wd, tx ea])) nLx
      have k16 := (k14.same s15).same s16
      have hLt16 := (s15.trans s16) _ _ hLt14
      obtain ⟨xr15, er15⟩ := (k14.same s15).rng.ex
      refine ⟨r, .ref Lx, rfl, k16.rng, .inl ⟨Lx, _, rfl, (ne_of_none er15 nLx).symm, .inl (.inl upd_same), (by show 0 < 6; decide), (by show 6 ≤ 1000; decide), fun H17 v g17 hv => ?_⟩⟩
      have k17 := k16.go g17
      have hLt17 := g17.1 _ _ nLr hLt16
      obtain ⟨ans, rfl, am, al⟩ : ∃ ans : List Nat, v = tx ans ∧ (∀ c ∈ ans, c ∈ gs) ∧ ans.length ≤ 150 := by
        simp only [List.cons_append, List.nil_append, List.mem_cons, List.not_mem_nil, or_false] at hv
        rcases hv with e | e | e | e | e | e
        · exact ⟨_, e, xm, by omega⟩
        · refine ⟨_, e, fun z hz => ?_, by rw [List.length_append, List.length_append]; show _ + 1 + _ ≤ _; omega⟩
          simp only [List.mem_append, List.mem_singleton] at hz
          rcases hz with (h | rfl) | h
          · exact m1 _ h
          · exact hc
          · exact m2 _ h
        · refine ⟨_, e, fun z hz => ?_, by rw [List.length_append]; omega⟩
          exact (List.mem_append.mp hz).elim (m1 z) (m3 z)
        · refine ⟨_, e, fun z hz => ?_, by rw [List.length_append, List.length_append]; show _ + 1 + _ ≤ _; omega⟩
          simp only [List.mem_append, List.mem_singleton] at hz
          rcases hz with (h | rfl) | h
          · exact m1 _ h
          · exact hc
          · exact m3 _ h
        · exact ⟨_, e, wm, by omega⟩
        · exact ⟨_, e, m1, by omega⟩
      obtain ⟨row, hrd⟩ := reads_ex hg (Nat.succ_pos n) _ ans (Nat.le_refl _) am
      have zan : (S ans).length ≤ sizeLine := by rw [S_len]; exact small (by omega)
      -- due
      dsimp only [gName, tSeq, tAsg, List.set_cons_zero, List.set_cons_succ]
      refine ro_one (L := Lt) rfl rfl rfl rfl hg (by omega) (by omega) (.inl (.inl hLt17)) (by omega) hcs hrd fun dv H18 s18 du18 => ?_
      have k18 := k17.same s18
      -- told
      refine lam_rt EN xN k18.tab hg (by omega) (by omega) hrd rfl rfl rfl fun H19 t19 e19 T19 td19 => ?_
      have k19 := k18.ext e19 T19
      have du19 := du18.ext e19
      dsimp only [tIfS]
      refine test1 du19 td19 rfl rfl fun H20 s20 => iteF ?_
      have k20 := k19.same s20
      dsimp only [tSeq, tIfS, tNext]
      refine test2 hg (by omega) (by omega) hrd (du19.same s20) (td19.same s20) rfl rfl rfl rfl fun H21 s21 => iteF ?_
      have k21 := k20.same s21
      -- asks
      dsimp only [gName, tSeq, tAsg, tNext, List.set_cons_zero, List.set_cons_succ]
      refine ⟨k21.tab, fun fa ca H23 e23 T23 nfa la1 => ?_⟩
      have k23 := k21.ext e23 T23
      refine ⟨T23, fun fb cb tb H24 e24 T24 nfb lb1 => ?_⟩
      have k24 := k23.ext e24 T24
      refine ⟨(by show 2 ≤ sizeLine; decide), fun A1 nA1 => ?_⟩
      have s25 := same_new (o := .lst [V.ref fa, V.ref fb]) nA1
      have k25 := k24.same s25
      refine ⟨_, rfl, .inl ⟨rfl, _, .inl (.inl upd_same)⟩, k25.tab, fun fc cc H26 e26 T26 nfc lc1 => ?_⟩
      have k26 := k25.ext e26 T26
      have hA26 : H26 A1 = some (.lst [V.ref fa, V.ref fb]) := e26 _ _ upd_same (fun ps h => by cases h)
      refine ⟨A1, _, _, rfl, rfl, hA26, (by show 2 < sizeLine; decide), ?_⟩
      have e27 : LamX.ExtN H24 (upd H26 A1 (.lst ([V.ref fa, V.ref fb] ++ [V.ref fc]))) := ext_put e26 nA1
      have k27 := k24.ext e27 (tabs_put T26 hA26)
      have la2 := (la1.ext e24).ext e27
      have lb2 := lb1.ext e27
      have lc2 := lam_put (ys := [V.ref fa, V.ref fb] ++ [V.ref fc]) lc1 hA26
      have hA27 : (upd H26 A1 (.lst ([V.ref fa, V.ref fb] ++ [V.ref fc]))) A1 = some (.lst ([V.ref fa, V.ref fb] ++ [V.ref fc])) := upd_same
      generalize (upd H26 A1 (.lst ([V.ref fa, V.ref fb] ++ [V.ref fc]))) = H27 at *
      -- dues
      refine ⟨_, rfl, _, rfl, zan, (by show 2 ≤ sizeLine; decide), fun d0 nd0 => ⟨(by show 2 ≤ sizeLine; decide), fun d1 nd1 => ⟨(by show 2 ≤ sizeLine; decide), fun d2 nd2 => ⟨(by show 3 ≤ sizeLine; decide), fun U nU => ?_⟩⟩⟩⟩
      have s30 := same_new (o := .tup [V.str (Str.ofString "UnknownLetter"), V.int ((S ans).length : Nat)]) nd0
      have s31 := same_new (o := .tup [V.str (Str.ofString "InvalidLetters"), V.non]) nd1
      have s32 := same_new (o := .tup [V.str (Str.ofString "InvalidLetters"), V.non]) nd2
      have s33 := same_new (o := .lst [V.ref d0, V.ref d1, V.ref d2]) nU
      have s2933 := ((s30.trans s31).trans s32).trans s33
      have k33 := k27.same s2933
      have hd0 := ((s31.trans s32).trans s33) _ _ upd_same
      have hd1 := (s32.trans s33) _ _ upd_same
      have hd2 := s33 _ _ upd_same
      have hU := upd_same (H := upd (upd (upd H27 d0 (.tup [V.str (Str.ofString "UnknownLetter"), V.int ((S ans).length : Nat)])) d1 (.tup [V.str (Str.ofString "InvalidLetters"), V.non])) d2 (.tup [V.str (Str.ofString "InvalidLetters"), V.non])) (a := U) (o := .lst [V.ref d0, V.ref d1, V.ref d2])
      have la := la2.same s2933
      have lb := lb2.same s2933
      have lc := lc2.same s2933
      have hA3 := s2933 _ _ hA27
      have Ba := lamB_of (k := 6) (t := fun E => tCall (spRTU CT) [] E (tCons (tVar 3) (tCons (tVar 4) (tCons (tOp _ (tVar 7) (tC (.str (Str.ofString "!")))) tNil)))) la (lamN_by (by show lamNB lawN (defScope sLaw) _ = true; decide +kernel)) (bindsL0 fun _ _ => rfl) (fun f A outer s H E hr2 => pe_call GRU (hr2.mono (by decide)) (by rfl) gRT kRT bRT .nil (passes_call (takes_of rfl rfl rfl rfl) (fun _ _ _ _ h => h)) (pa_cons (pv 3) (pa_cons (pv 4) (pa_cons (pe_op op_add_str (pv 7) pe_str) pa_nil))))
      have Bb := lamB_of (k := 6) (t := fun E => tCall (spRTI CI) [] E (tCons (tC (.str (Str.ofString "a"))) (tCons (tVar 4) (tCons (tC (.str (Str.ofString "!"))) tNil)))) lb (lamN_by (by show lamNB lawN (defScope sLaw) _ = true; decide +kernel)) (bindsL1 (x := "_law_a") rfl rfl fun _ _ _ => ⟨_, rfl, rfl⟩) (fun f A outer s H E hr2 => pe_call GRI (hr2.mono (by decide)) (by rfl) gRT kRT bRT .nil (passes_call (takes_of rfl rfl rfl rfl) (fun _ _ _ _ h => h)) (pa_cons pe_str (pa_cons (pv 4) (pa_cons pe_str pa_nil))))
      have Bc := lamB_of (k := 6) (t := fun E => tCall (spQuI CI) [] E (tCons (tC (.str (Str.ofString "abA"))) (tCons (tVar 4) tNil))) lc (lamN_by (by show lamNB lawN (defScope sLaw) _ = true; decide +kernel)) (bindsL0 fun _ _ => rfl) (fun f A outer s H E hr2 => pe_call GQI (hr2.mono (by decide)) (by rfl) gQ kQ bQ .nil (passes_call (takes_of rfl rfl rfl rfl) (fun _ _ _ _ h => h)) (pa_cons pe_str (pa_cons (pv 4) pa_nil)))
      generalize upd (upd (upd (upd H27 d0 (.tup [V.str (Str.ofString "UnknownLetter"), V.int ((S ans).length : Nat)])) d1 (.tup [V.str (Str.ofString "InvalidLetters"), V.non])) d2 (.tup [V.str (Str.ofString "InvalidLetters"), V.non])) U (.lst [V.ref d0, V.ref d1, V.ref d2]) = H33 at *
      -- the three calls
      refine ⟨_, rfl, A1, rfl, ⟨_, .inl (.inl hA3)⟩, fun D nD => ?_⟩
      refine lc_list (K := K) (a := A1) (xs := [V.ref fa, V.ref fb] ++ [V.ref fc]) (fun i H' => Same H33 H' ∧ ∃ ts : List Addr, ts.length = i ∧ H' D = some (.lst (ts.map V.ref)) ∧ ∀ (j : Nat) (t : Addr), ts[j]? = some t → H' t = some (.tup (dueV ((S ans).length : Nat) j)))
        ⟨same_new nD, [], rfl, upd_same, (fun j t h => by cases h)⟩ (fun _ _ _ h => h.1.seq (.inl (.inl hA3))) ?_ ?_
      · rintro i y H' hy ⟨sa, ts, hl, hD, ht⟩
        have hi3 : i < 3 := (List.getElem?_eq_some_iff.mp hy).1
        have fin : ∀ (H2 : Hp) (t : Addr), Same H' H2 → H2 t = none → ∃ acc, (upd H2 t (.tup (dueV ((S ans).length : Nat) i))) D = some (.lst acc) ∧ acc.length < sizeLine ∧ (Same H33 (upd (upd H2 t (.tup (dueV ((S ans).length : Nat) i))) D (.lst (acc ++ [.ref t]))) ∧
            ∃ ts : List Addr, ts.length = i + 1 ∧ (upd (upd H2 t (.tup (dueV ((S ans).length : Nat) i))) D (.lst (acc ++ [.ref t]))) D = some (.lst (ts.map V.ref)) ∧ ∀ (j : Nat) (u : Addr), ts[j]? = some u → (upd (upd H2 t (.tup (dueV ((S ans).length : Nat) i))) D (.lst (acc ++ [.ref t]))) u = some (.tup (dueV ((S ans).length : Nat) j))) := by
          intro H2 t s2 nt
          have s3 := s2.trans (same_new (o := .tup (dueV ((S ans).length : Nat) i)) nt)
          have hD3 := s3 _ _ hD
          refine ⟨_, hD3, ?_, same_put (sa.trans s3) nD, ts ++ [t], by rw [List.length_append, hl]; rfl, by rw [upd_same, List.map_append]; rfl, fun j u hu => ?_⟩
          · rw [List.length_map, hl]
            exact small1000 (by omega)
          · have hu2 : (upd H2 t (.tup (dueV ((S ans).length : Nat) i))) u = some (.tup (dueV ((S ans).length : Nat) j)) := by
              by_cases hj : j < i
              · rw [List.getElem?_append_left (by omega)] at hu
                exact s3 _ _ (ht j u hu)
              · have := (List.getElem?_eq_some_iff.mp hu).1
                rw [List.length_append, hl] at this
                have ej : j = i := by have : [t].length = 1 := rfl; omega
                subst ej
                rw [List.getElem?_append_right (by omega), hl, Nat.sub_self] at hu
                cases hu
                exact upd_same
            rw [upd_ne (ne_of hu2 hD3 fun z => by cases z)]
            exact hu2
        match i, hi3, hy, fin with
        | 0, _, hy, fin =>
          obtain rfl : V.ref fa = y := Option.some.inj hy
          refine ⟨rfl, fa, _, _, rfl, Ba, la.same sa, la.same sa, _, rfl, _, rfl, _, rfl, _, _, rfl, rfl, ?_, ?_⟩
          · rw [oex, S_len, S_len]
            exact small (by show _ + 1 ≤ 1000; omega)
          rw [oex, show S ans ++ S [33] = S (ans ++ [33]) from S_cat _ _]
          refine ⟨gs, ans ++ [33], n, (S ans).length, rfl, hg, by omega, ⟨33, by rw [S_len]; simp, (fun h => by have := hg.az 33 h; omega), fun j c' hj hc => ?_⟩, fun H2 d s2 hd => ⟨xT, _, _, errN_1 ET hd fl_ul ET.np (by decide +kernel), fun H3 t s3 nt => ?_⟩⟩
          · rw [S_len] at hj
            rw [List.getElem?_append_left hj] at hc
            exact am c' (List.mem_of_getElem? hc)
          · exact fin H3 t (s2.trans s3) nt
        | 1, _, hy, fin =>
          obtain rfl : V.ref fb = y := Option.some.inj hy
          refine ⟨rfl, fb, _, _, rfl, Bb, lb.same sa, lb.same sa, _, rfl, [97], _, _, by rw [oa]; rfl, nv2, by decide, fun H2 d s2 hd => ⟨xI, _, _, errN_0 EI hd fl_il, fun H3 t s3 nt => ?_⟩⟩
          exact fin H3 t (s2.trans s3) nt
        | 2, _, hy, fin =>
          obtain rfl : V.ref fc = y := Option.some.inj hy
          refine ⟨rfl, fc, _, _, rfl, Bc, lc.same sa, lc.same sa, _, rfl, [97, 98, 65], _, by rw [oabA]; rfl, nv1, by decide, fun H2 d s2 hd => ⟨xI, _, _, errN_0 EI hd fl_il, fun H3 t s3 nt => ?_⟩⟩
          exact fin H3 t (s2.trans s3) nt
      · rintro H34 ⟨s34, ts, hl, hD, ht⟩
        have h3t : ts.length = 3 := hl
        match ts, h3t with
        | [t0, t1, t2], _ =>
          refine ⟨_, rfl, dueD ((S ans).length : Nat), dueD ((S ans).length : Nat), due_dp hD (ht 0 t0 rfl) (ht 1 t1 rfl) (ht 2 t2 rfl), due_dp (s34 _ _ hU) (s34 _ _ hd0) (s34 _ _ hd1) (s34 _ _ hd2), due_sh _, due_sh _, ?_⟩
          rw [SeqAt.eqv_refl _ (SeqAt.canLay_of_shaped (due_sh _))]
          refine ⟨false, rfl, iteF ?_⟩
          exact ⟨_, _, _, _, _, _, _, _, _, _, _, _, _, _, _, _, rfl, k33.same s34⟩
    · rintro σ H2 ⟨v2, v3, v4, v5, v6, v7, v8, v9, v10, v11, v12, v13, v14, v15, v16, v17, rfl, k2⟩
      exact q _
end
end Own

namespace Own
open PySem PySem.Spec PyProof.Rows L2 SX
theorem all_mk {l : PySem.W.OpenLaw} {w : World} {K : PySem.W.Frag} {h : Heap} {mg : Str → Option Value} {fa cc Pt Ct f1 f2 f3 f4 f5 f6 f7 f8 f9 f10 f11 f12 f13 f14 f15 f16 f17 f18 f19 f20 f21 f22 f23 f24 f25 f26 f27 f28 f29 f30 f31 f32 f33 f34 f35 f36 C1 C2 C3 B1 B2  : Addr}
    (X : K.In h) (G : h.Ns mainGlobals mg) (hfa : mg "law" = some (.ref fa)) (hPt : h.get? Pt = some (PySem.W.tabObj #[]))
    {od1 an1 od2 an2 od3 an3 od4 an4 od5 an5 od6 an6 od7 an7 od8 an8 od9 an9 od10 an10 od11 an11 od12 an12 od13 an13 od14 an14 od15 an15 od16 an16 od17 an17 od18 an18 od19 an19 od20 an20 od21 an21 od22 an22 od23 an23 od24 an24 od25 an25 od26 an26 od27 an27 od28 an28 od29 an29 od30 an30 od31 an31 od32 an32 od33 an33 od34 an34 od35 an35 od36 an36 : Option Addr}
    {sl1 sl2 sl3 sl4 sl5 sl6 sl7 sl8 sl9 sl10 sl11 sl12 sl13 sl14 sl15 sl16 sl17 sl18 sl19 sl20 sl21 sl22 sl23 sl24 sl25 sl26 sl27 sl28 sl29 sl30 sl31 sl32 sl33 sl34 sl35 sl36 : Array (Option Value)}
    {oc1 kV1 dc1 pm1 cd1 ct1 oc2 kV2 dc2 pm2 cd2 ct2 oc3 kV3 dc3 pm3 cd3 ct3 oc4 kV4 dc4 pm4 cd4 ct4 oc5 kV5 dc5 pm5 cd5 ct5 oc6 kV6 dc6 pm6 cd6 ct6 oc7 kV7 dc7 pm7 cd7 ct7 oc8 kV8 dc8 pm8 cd8 ct8 oc9 kV9 dc9 pm9 cd9 ct9 oc10 kV10 dc10 pm10 cd10 ct10 oc11 kV11 dc11 pm11 cd11 ct11 oc12 kV12 dc12 pm12 cd12 ct12 oc13 kV13 dc13 pm13 cd13 ct13 oc14 kV14 dc14 pm14 cd14 ct14 oc15 kV15 dc15 pm15 cd15 ct15 oc16 kV16 dc16 pm16 cd16 ct16 oc17 kV17 dc17 pm17 cd17 ct17 oc18 kV18 dc18 pm18 cd18 ct18 oc19 kV19 dc19 pm19 cd19 ct19 oc20 kV20 dc20 pm20 cd20 ct20 oc21 kV21 dc21 pm21 cd21 ct21 oc22 kV22 dc22 pm22 cd22 ct22 oc23 kV23 dc23 pm23 cd23 ct23 oc24 kV24 dc24 pm24 cd24 ct24 oc25 kV25 dc25 pm25 cd25 ct25 oc26 kV26 dc26 pm26 cd26 ct26 oc27 kV27 dc27 pm27 cd27 ct27 oc28 kV28 dc28 pm28 cd28 ct28 oc29 kV29 dc29 pm29 cd29 ct29 oc30 kV30 dc30 pm30 cd30 ct30 oc31 kV31 dc31 pm31 cd31 ct31 oc32 kV32 dc32 pm32 cd32 ct32 oc33 kV33 dc33 pm33 cd33 ct33 oc34 kV34 dc34 pm34 cd34 ct34 oc35 kV35 dc35 pm35 cd35 ct35 oc36 kV36 dc36 pm36 ct36 : Value}
    {t1 t2 t3 t4 t5 : Tok}
    (a1 : PySem.W.nsIn K mainGlobals "check_letters" = some (some (.ref f1)))
    (a5 : PySem.W.nsIn K mainGlobals "check_text" = some (some (.ref f5)))
    (a6 : PySem.W.nsIn K mainGlobals "is_turn" = some (some (.ref f6)))
    (a7 : PySem.W.nsIn K mainGlobals "turned" = some (some (.ref f7)))
    (a8 : PySem.W.nsIn K mainGlobals "is_blank" = some (some (.ref f8)))
    (a9 : PySem.W.nsIn K mainGlobals "blank_width" = some (some (.ref f9)))
    (a10 : PySem.W.nsIn K mainGlobals "read_row" = some (some (.ref f10)))
    (a11 : PySem.W.nsIn K mainGlobals "item_text" = some (some (.ref f11)))
    (a12 : PySem.W.nsIn K mainGlobals "row_text" = some (some (.ref f12)))
    (a13 : PySem.W.nsIn K mainGlobals "turned_row" = some (some (.ref f13)))
    (a14 : PySem.W.nsIn K mainGlobals "put_row" = some (some (.ref f14)))
    (a18 : PySem.W.nsIn K mainGlobals "question" = some (some (.ref f18)))
    (a19 : PySem.W.nsIn K mainGlobals "turn_at" = some (some (.ref f19)))
    (a20 : PySem.W.nsIn K mainGlobals "read_template" = some (some (.ref f20)))
    (a21 : PySem.W.nsIn K mainGlobals "_law_draws" = some (some (.ref f21)))
    (a22 : PySem.W.nsIn K mainGlobals "_law_draw" = some (some (.ref f22)))
    (a23 : PySem.W.nsIn K mainGlobals "_law_pick" = some (some (.ref f23)))
    (a24 : PySem.W.nsIn K mainGlobals "_law_same" = some (some (.ref f24)))
    (a25 : PySem.W.nsIn K mainGlobals "_law_field" = some (some (.ref f25)))
    (a26 : PySem.W.nsIn K mainGlobals "_law_try" = some (some (.ref f26)))
    (a27 : PySem.W.nsIn K mainGlobals "_law_letters" = some (some (.ref f27)))
    (a28 : PySem.W.nsIn K mainGlobals "_law_turn" = some (some (.ref f28)))
    (a29 : PySem.W.nsIn K mainGlobals "_law_word" = some (some (.ref f29)))
    (a30 : PySem.W.nsIn K mainGlobals "_law_turned" = some (some (.ref f30)))
    (a31 : PySem.W.nsIn K mainGlobals "_law_items" = some (some (.ref f31)))
    (a32 : PySem.W.nsIn K mainGlobals "_law_fill" = some (some (.ref f32)))
    (a33 : PySem.W.nsIn K mainGlobals "_law_after" = some (some (.ref f33)))
    (a34 : PySem.W.nsIn K mainGlobals "_law_group" = some (some (.ref f34)))
    (a35 : PySem.W.nsIn K mainGlobals "_law_read_off" = some (some (.ref f35)))
    (a36 : PySem.W.nsIn K mainGlobals "law" = some (some (.ref f36)))
    (e1 : PySem.W.nsIn K mainGlobals "InvalidLetters" = some (some (.ref C1)))
    (e2 : PySem.W.nsIn K mainGlobals "UnknownLetter" = some (some (.ref C2)))
    (e3 : PySem.W.nsIn K mainGlobals "NoTemplate" = some (some (.ref C3)))
    (eT : PySem.W.nsIn K mainGlobals "Template" = some (some (.ref Ct)))
    (a2 : PySem.W.findIn K (.ref C1) "__init__" = some (some (.ref f2)))
    (y2 : PySem.W.typeIn K (.ref f2) = some (.type "function"))
    (a3 : PySem.W.findIn K (.ref C2) "__init__" = some (some (.ref f3)))
    (y3 : PySem.W.typeIn K (.ref f3) = some (.type "function"))
    (a4 : PySem.W.findIn K (.ref C3) "__init__" = some (some (.ref f4)))
    (y4 : PySem.W.typeIn K (.ref f4) = some (.type "function"))
    (a15 : PySem.W.findIn K (.ref Ct) "__init__" = some (some (.ref f15)))
    (y15 : PySem.W.isFn K (.ref f15) = true)
    (a16 : PySem.W.findIn K (.ref Ct) "row" = some (some (.ref f16)))
    (y16 : PySem.W.isFn K (.ref f16) = true)
    (a17 : PySem.W.findIn K (.ref Ct) "fill" = some (some (.ref f17)))
    (y17 : PySem.W.isFn K (.ref f17) = true)
    (tc : Cls K Ct)
    (tna : NoAttr K Ct "alphabet")
    (tnp : NoAttr K Ct "places")
    (tmk : PySem.W.makesIn K Ct = true)
    (tkp : PySem.W.keepIn K (.ref Ct) = true)
    (l1 : K.lookup f1 = some ⟨oc1, od1, .func (PySem.W.fnOf "check_letters" "check_letters" (defArgs sCheckL) (defBody sCheckL) (defScope sCheckL) .none kV1 dc1 pm1 an1 cd1 ct1), sl1⟩)
    (c1 : PySem.W.codeIn K cd1 "check_letters" = true)
    (k1 : PySem.W.keepIn K (.ref f1) = true)
    (l2 : K.lookup f2 = some ⟨oc2, od2, .func (PySem.W.fnOf "__init__" "InvalidLetters.__init__" (defArgs sInitIL) (defBody sInitIL) (defScope sInitIL) .none kV2 dc2 pm2 an2 cd2 ct2), sl2⟩)
    (c2 : PySem.W.codeIn K cd2 "InvalidLetters.__init__" = true)
    (k2 : PySem.W.keepIn K (.ref f2) = true)
    (l3 : K.lookup f3 = some ⟨oc3, od3, .func (PySem.W.fnOf "__init__" "UnknownLetter.__init__" (defArgs sInitUL) (defBody sInitUL) (defScope sInitUL) .none kV3 dc3 pm3 an3 cd3 ct3), sl3⟩)
    (c3 : PySem.W.codeIn K cd3 "UnknownLetter.__init__" = true)
    (k3 : PySem.W.keepIn K (.ref f3) = true)
    (l4 : K.lookup f4 = some ⟨oc4, od4, .func (PySem.W.fnOf "__init__" "NoTemplate.__init__" (defArgs sInitNT) (defBody sInitNT) (defScope sInitNT) .none kV4 dc4 pm4 an4 cd4 ct4), sl4⟩)
    (c4 : PySem.W.codeIn K cd4 "NoTemplate.__init__" = true)
    (k4 : PySem.W.keepIn K (.ref f4) = true)
    (l5 : K.lookup f5 = some ⟨oc5, od5, .func (PySem.W.fnOf "check_text" "check_text" (defArgs sCheckT) (defBody sCheckT) (defScope sCheckT) .none kV5 dc5 pm5 an5 cd5 ct5), sl5⟩)
    (c5 : PySem.W.codeIn K cd5 "check_text" = true)
    (k5 : PySem.W.keepIn K (.ref f5) = true)
    (l6 : K.lookup f6 = some ⟨oc6, od6, .func (PySem.W.fnOf "is_turn" "is_turn" (defArgs sIs) (defBody sIs) (defScope sIs) .none kV6 dc6 pm6 an6 cd6 ct6), sl6⟩)
    (c6 : PySem.W.codeIn K cd6 "is_turn" = true)
    (k6 : PySem.W.keepIn K (.ref f6) = true)
    (l7 : K.lookup f7 = some ⟨oc7, od7, .func (PySem.W.fnOf "turned" "turned" (defArgs sTurned) (defBody sTurned) (defScope sTurned) .none kV7 dc7 pm7 an7 cd7 ct7), sl7⟩)
    (c7 : PySem.W.codeIn K cd7 "turned" = true)
    (k7 : PySem.W.keepIn K (.ref f7) = true)
    (l8 : K.lookup f8 = some ⟨oc8, od8, .func (PySem.W.fnOf "is_blank" "is_blank" (defArgs sBk) (defBody sBk) (defScope sBk) .none kV8 dc8 pm8 an8 cd8 ct8), sl8⟩)
    (c8 : PySem.W.codeIn K cd8 "is_blank" = true)
    (k8 : PySem.W.keepIn K (.ref f8) = true)
    (l9 : K.lookup f9 = some ⟨oc9, od9, .func (PySem.W.fnOf "blank_width" "blank_width" (defArgs sBw) (defBody sBw) (defScope sBw) .none kV9 dc9 pm9 an9 cd9 ct9), sl9⟩)
    (c9 : PySem.W.codeIn K cd9 "blank_width" = true)
    (k9 : PySem.W.keepIn K (.ref f9) = true)
    (l10 : K.lookup f10 = some ⟨oc10, od10, .func (PySem.W.fnOf "read_row" "read_row" (defArgs sRd) (defBody sRd) (defScope sRd) .none kV10 dc10 pm10 an10 cd10 ct10), sl10⟩)
    (c10 : PySem.W.codeIn K cd10 "read_row" = true)
    (k10 : PySem.W.keepIn K (.ref f10) = true)
    (l11 : K.lookup f11 = some ⟨oc11, od11, .func (PySem.W.fnOf "item_text" "item_text" (defArgs sIt) (defBody sIt) (defScope sIt) .none kV11 dc11 pm11 an11 cd11 ct11), sl11⟩)
    (c11 : PySem.W.codeIn K cd11 "item_text" = true)
    (k11 : PySem.W.keepIn K (.ref f11) = true)
    (l12 : K.lookup f12 = some ⟨oc12, od12, .func (PySem.W.fnOf "row_text" "row_text" (defArgs sRt) (defBody sRt) (defScope sRt) .none kV12 dc12 pm12 an12 cd12 ct12), sl12⟩)
    (c12 : PySem.W.codeIn K cd12 "row_text" = true)
    (k12 : PySem.W.keepIn K (.ref f12) = true)
    (l13 : K.lookup f13 = some ⟨oc13, od13, .func (PySem.W.fnOf "turned_row" "turned_row" (defArgs sTr) (defBody sTr) (defScope sTr) .none kV13 dc13 pm13 an13 cd13 ct13), sl13⟩)
    (c13 : PySem.W.codeIn K cd13 "turned_row" = true)
    (k13 : PySem.W.keepIn K (.ref f13) = true)
    (l14 : K.lookup f14 = some ⟨oc14, od14, .func (PySem.W.fnOf "put_row" "put_row" (defArgs sPut) (defBody sPut) (defScope sPut) .none kV14 dc14 pm14 an14 cd14 ct14), sl14⟩)
    (c14 : PySem.W.codeIn K cd14 "put_row" = true)
    (k14 : PySem.W.keepIn K (.ref f14) = true)
    (l15 : K.lookup f15 = some ⟨oc15, od15, .func (PySem.W.fnOf "__init__" "Template.__init__" (defArgs sTi) (defBody sTi) (defScope sTi) .none kV15 dc15 pm15 an15 cd15 ct15), sl15⟩)
    (c15 : PySem.W.codeIn K cd15 "Template.__init__" = true)
    (k15 : PySem.W.keepIn K (.ref f15) = true)
    (l16 : K.lookup f16 = some ⟨oc16, od16, .func (PySem.W.fnOf "row" "Template.row" (defArgs sRow) (defBody sRow) (defScope sRow) .none kV16 dc16 pm16 an16 cd16 ct16), sl16⟩)
    (c16 : PySem.W.codeIn K cd16 "Template.row" = true)
    (k16 : PySem.W.keepIn K (.ref f16) = true)
    (l17 : K.lookup f17 = some ⟨oc17, od17, .func (PySem.W.fnOf "fill" "Template.fill" (defArgs sFi) (defBody sFi) (defScope sFi) .none kV17 dc17 pm17 an17 cd17 ct17), sl17⟩)
    (c17 : PySem.W.codeIn K cd17 "Template.fill" = true)
    (k17 : PySem.W.keepIn K (.ref f17) = true)
    (l18 : K.lookup f18 = some ⟨oc18, od18, .func (PySem.W.fnOf "question" "question" (defArgs sQu) (defBody sQu) (defScope sQu) .none kV18 dc18 pm18 an18 cd18 ct18), sl18⟩)
    (c18 : PySem.W.codeIn K cd18 "question" = true)
    (k18 : PySem.W.keepIn K (.ref f18) = true)
    (l19 : K.lookup f19 = some ⟨oc19, od19, .func (PySem.W.fnOf "turn_at" "turn_at" (defArgs sTA) (defBody sTA) (defScope sTA) .none kV19 dc19 pm19 an19 cd19 ct19), sl19⟩)
    (c19 : PySem.W.codeIn K cd19 "turn_at" = true)
    (k19 : PySem.W.keepIn K (.ref f19) = true)
    (l20 : K.lookup f20 = some ⟨oc20, od20, .func (PySem.W.fnOf "read_template" "read_template" (defArgs sRT) (defBody sRT) (defScope sRT) .none kV20 dc20 pm20 an20 cd20 ct20), sl20⟩)
    (c20 : PySem.W.codeIn K cd20 "read_template" = true)
    (k20 : PySem.W.keepIn K (.ref f20) = true)
    (l21 : K.lookup f21 = some ⟨oc21, od21, .func (PySem.W.fnOf "_law_draws" "_law_draws" (defArgs sDraws) (defBody sDraws) (defScope sDraws) .none kV21 dc21 pm21 an21 cd21 ct21), sl21⟩)
    (c21 : PySem.W.codeIn K cd21 "_law_draws" = true)
    (k21 : PySem.W.keepIn K (.ref f21) = true)
    (l22 : K.lookup f22 = some ⟨oc22, od22, .func (PySem.W.fnOf "_law_draw" "_law_draw" (defArgs sDraw) (defBody sDraw) (defScope sDraw) .none kV22 dc22 pm22 an22 cd22 ct22), sl22⟩)
    (c22 : PySem.W.codeIn K cd22 "_law_draw" = true)
    (k22 : PySem.W.keepIn K (.ref f22) = true)
    (l23 : K.lookup f23 = some ⟨oc23, od23, .func (PySem.W.fnOf "_law_pick" "_law_pick" (defArgs sPick) (defBody sPick) (defScope sPick) .none kV23 dc23 pm23 an23 cd23 ct23), sl23⟩)
    (c23 : PySem.W.codeIn K cd23 "_law_pick" = true)
    (k23 : PySem.W.keepIn K (.ref f23) = true)
    (l24 : K.lookup f24 = some ⟨oc24, od24, .func (PySem.W.fnOf "_law_same" "_law_same" (defArgs sSame) (defBody sSame) (defScope sSame) .none kV24 dc24 pm24 an24 cd24 ct24), sl24⟩)
    (c24 : PySem.W.codeIn K cd24 "_law_same" = true)
    (k24 : PySem.W.keepIn K (.ref f24) = true)
    (l25 : K.lookup f25 = some ⟨oc25, od25, .func (PySem.W.fnOf "_law_field" "_law_field" (defArgs sField) (defBody sField) (defScope sField) .none kV25 dc25 pm25 an25 cd25 ct25), sl25⟩)
    (c25 : PySem.W.codeIn K cd25 "_law_field" = true)
    (k25 : PySem.W.keepIn K (.ref f25) = true)
    (l26 : K.lookup f26 = some ⟨oc26, od26, .func (PySem.W.fnOf "_law_try" "_law_try" (defArgs sTry) (defBody sTry) (defScope sTry) .none kV26 dc26 pm26 an26 cd26 ct26), sl26⟩)
    (c26 : PySem.W.codeIn K cd26 "_law_try" = true)
    (k26 : PySem.W.keepIn K (.ref f26) = true)
    (l27 : K.lookup f27 = some ⟨oc27, od27, .func (PySem.W.fnOf "_law_letters" "_law_letters" (defArgs sLetters) (defBody sLetters) (defScope sLetters) .none kV27 dc27 pm27 an27 cd27 ct27), sl27⟩)
    (c27 : PySem.W.codeIn K cd27 "_law_letters" = true)
    (k27 : PySem.W.keepIn K (.ref f27) = true)
    (l28 : K.lookup f28 = some ⟨oc28, od28, .func (PySem.W.fnOf "_law_turn" "_law_turn" (defArgs sTurn) (defBody sTurn) (defScope sTurn) .none kV28 dc28 pm28 an28 cd28 ct28), sl28⟩)
    (c28 : PySem.W.codeIn K cd28 "_law_turn" = true)
    (k28 : PySem.W.keepIn K (.ref f28) = true)
    (l29 : K.lookup f29 = some ⟨oc29, od29, .func (PySem.W.fnOf "_law_word" "_law_word" (defArgs sWord) (defBody sWord) (defScope sWord) .none kV29 dc29 pm29 an29 cd29 ct29), sl29⟩)
    (c29 : PySem.W.codeIn K cd29 "_law_word" = true)
    (k29 : PySem.W.keepIn K (.ref f29) = true)
    (l30 : K.lookup f30 = some ⟨oc30, od30, .func (PySem.W.fnOf "_law_turned" "_law_turned" (defArgs sLTurned) (defBody sLTurned) (defScope sLTurned) .none kV30 dc30 pm30 an30 cd30 ct30), sl30⟩)
    (c30 : PySem.W.codeIn K cd30 "_law_turned" = true)
    (k30 : PySem.W.keepIn K (.ref f30) = true)
    (l31 : K.lookup f31 = some ⟨oc31, od31, .func (PySem.W.fnOf "_law_items" "_law_items" (defArgs sItems) (defBody sItems) (defScope sItems) .none kV31 dc31 pm31 an31 cd31 ct31), sl31⟩)
    (c31 : PySem.W.codeIn K cd31 "_law_items" = true)
    (k31 : PySem.W.keepIn K (.ref f31) = true)
    (l32 : K.lookup f32 = some ⟨oc32, od32, .func (PySem.W.fnOf "_law_fill" "_law_fill" (defArgs sLf) (defBody sLf) (defScope sLf) .none kV32 dc32 pm32 an32 cd32 ct32), sl32⟩)
    (c32 : PySem.W.codeIn K cd32 "_law_fill" = true)
    (k32 : PySem.W.keepIn K (.ref f32) = true)
    (l33 : K.lookup f33 = some ⟨oc33, od33, .func (PySem.W.fnOf "_law_after" "_law_after" (defArgs sLAfter) (defBody sLAfter) (defScope sLAfter) .none kV33 dc33 pm33 an33 cd33 ct33), sl33⟩)
    (c33 : PySem.W.codeIn K cd33 "_law_after" = true)
    (k33 : PySem.W.keepIn K (.ref f33) = true)
    (l34 : K.lookup f34 = some ⟨oc34, od34, .func (PySem.W.fnOf "_law_group" "_law_group" (defArgs sGroup) (defBody sGroup) (defScope sGroup) .none kV34 dc34 pm34 an34 cd34 ct34), sl34⟩)
    (c34 : PySem.W.codeIn K cd34 "_law_group" = true)
    (k34 : PySem.W.keepIn K (.ref f34) = true)
    (l35 : K.lookup f35 = some ⟨oc35, od35, .func (PySem.W.fnOf "_law_read_off" "_law_read_off" (defArgs sRo) (defBody sRo) (defScope sRo) .none kV35 dc35 pm35 an35 cd35 ct35), sl35⟩)
    (c35 : PySem.W.codeIn K cd35 "_law_read_off" = true)
    (k35 : PySem.W.keepIn K (.ref f35) = true)
    (l36 : K.lookup f36 = some ⟨oc36, od36, .func (PySem.W.fnOf "law" "law" (defArgs sLaw) (defBody sLaw) (defScope sLaw) .none kV36 dc36 pm36 an36 (.ref cc) ct36), sl36⟩)
    (c36 : PySem.W.codeIn K (.ref cc) "law" = true)
    (k36 : PySem.W.keepIn K (.ref f36) = true)
    (b1 : PySem.W.nsIn K mainGlobals "FillError" = some (some (.ref B1)))
    (b2 : PySem.W.nsIn K mainGlobals "Missing" = some (some (.ref B2)))
    (x1 : OexC K C1)
    (xf1 : XfC K C1)
    (nc1 : PySem.W.findIn K (.ref C1) "code" = some none)
    (np1 : PySem.W.findIn K (.ref C1) "position" = some none)
    (xm1 : PySem.W.exmAny K (.ref C1) [.ref B1, .ref B2] = some true)
    (x2 : OexC K C2)
    (xf2 : XfC K C2)
    (nc2 : PySem.W.findIn K (.ref C2) "code" = some none)
    (np2 : PySem.W.findIn K (.ref C2) "position" = some none)
    (xm2 : PySem.W.exmAny K (.ref C2) [.ref B1, .ref B2] = some true)
    (x3 : OexC K C3)
    (xf3 : XfC K C3)
    (nc3 : PySem.W.findIn K (.ref C3) "code" = some none)
    (np3 : PySem.W.findIn K (.ref C3) "position" = some none)
    (xm3 : PySem.W.exmAny K (.ref C3) [.ref B1, .ref B2] = some true)
    (v1 : PySem.W.nsIn K mainGlobals "LEAST_LETTERS" = some (some (.int 2 t1)))
    (v2 : PySem.W.nsIn K mainGlobals "MOST_LETTERS" = some (some (.int 4 t2)))
    (v3 : PySem.W.nsIn K mainGlobals "LOWERCASE" = some (some (.str "abcdefghijklmnopqrstuvwxyz" t3)))
    (v4 : PySem.W.nsIn K mainGlobals "EMPTY_TEXT" = some (some (.str "-" t4)))
    (v5 : PySem.W.nsIn K mainGlobals "PLAIN_BLANK" = some (some (.str "{}" t5)))
    (nT : K.lookup Pt = none)
    (hC : PySem.W.codeHdIn K cc Pt = true)
    (z1 : PySem.W.nsIn K mainGlobals "enumerate" = some none)
    (z2 : PySem.W.nsIn K mainGlobals "int" = some none)
    (z3 : PySem.W.nsIn K mainGlobals "list" = some none)
    (z4 : PySem.W.nsIn K mainGlobals "len" = some none)
    (z5 : PySem.W.nsIn K mainGlobals "isinstance" = some none)
    (z6 : PySem.W.nsIn K mainGlobals "tuple" = some none)
    (z7 : PySem.W.nsIn K mainGlobals "all" = some none)
    (z8 : PySem.W.nsIn K mainGlobals "zip" = some none)
    (z9 : PySem.W.nsIn K mainGlobals "bool" = some none)
    (z10 : PySem.W.nsIn K mainGlobals "str" = some none)
    (z11 : PySem.W.nsIn K mainGlobals "min" = some none)
    (z12 : PySem.W.nsIn K mainGlobals "range" = some none)
    (z13 : PySem.W.nsIn K mainGlobals "sorted" = some none)
    (z14 : PySem.W.nsIn K mainGlobals "dict" = some none)
    : LamX.LawAtS l w K CX0 9 63 "_law_script" mg fa h := by
  have e := hfa.symm.trans (PySem.W.mg_of X G a36)
  cases e
  have F1 := fun_mk (st := sCheckL) l1 c1 k1
  have g1 := PySem.W.mg_of X G a1
  have F2 := fun_mk (st := sInitIL) l2 c2 k2
  have F3 := fun_mk (st := sInitUL) l3 c3 k3
  have F4 := fun_mk (st := sInitNT) l4 c4 k4
  have F5 := fun_mk (st := sCheckT) l5 c5 k5
  have g5 := PySem.W.mg_of X G a5
  have F6 := fun_mk (st := sIs) l6 c6 k6
  have g6 := PySem.W.mg_of X G a6
  have F7 := fun_mk (st := sTurned) l7 c7 k7
  have g7 := PySem.W.mg_of X G a7
  have F8 := fun_mk (st := sBk) l8 c8 k8
  have g8 := PySem.W.mg_of X G a8
  have F9 := fun_mk (st := sBw) l9 c9 k9
  have g9 := PySem.W.mg_of X G a9
  have F10 := fun_mk (st := sRd) l10 c10 k10
  have g10 := PySem.W.mg_of X G a10
  have F11 := fun_mk (st := sIt) l11 c11 k11
  have g11 := PySem.W.mg_of X G a11
  have F12 := fun_mk (st := sRt) l12 c12 k12
  have g12 := PySem.W.mg_of X G a12
  have F13 := fun_mk (st := sTr) l13 c13 k13
  have g13 := PySem.W.mg_of X G a13
  have F14 := fun_mk (st := sPut) l14 c14 k14
  have g14 := PySem.W.mg_of X G a14
  have F15 := fun_mk (st := sTi) l15 c15 k15
  have MK : Mk K Ct f15 := ⟨tmk, a15, y15, tkp⟩
  have F16 := fun_mk (st := sRow) l16 c16 k16
  have M16 : Meth K Ct "row" f16 := ⟨a16, y16, k16⟩
  have F17 := fun_mk (st := sFi) l17 c17 k17
  have M17 : Meth K Ct "fill" f17 := ⟨a17, y17, k17⟩
  have F18 := fun_mk (st := sQu) l18 c18 k18
  have g18 := PySem.W.mg_of X G a18
  have F19 := fun_mk (st := sTA) l19 c19 k19
  have g19 := PySem.W.mg_of X G a19
  have F20 := fun_mk (st := sRT) l20 c20 k20
  have g20 := PySem.W.mg_of X G a20
  have F21 := fun_mk (st := sDraws) l21 c21 k21
  have g21 := PySem.W.mg_of X G a21
  have F22 := fun_mk (st := sDraw) l22 c22 k22
  have g22 := PySem.W.mg_of X G a22
  have F23 := fun_mk (st := sPick) l23 c23 k23
  have g23 := PySem.W.mg_of X G a23
  have F24 := fun_mk (st := sSame) l24 c24 k24
  have g24 := PySem.W.mg_of X G a24
  have F25 := fun_mk (st := sField) l25 c25 k25
  have g25 := PySem.W.mg_of X G a25
  have F26 := fun_mk (st := sTry) l26 c26 k26
  have g26 := PySem.W.mg_of X G a26
  have F27 := fun_mk (st := sLetters) l27 c27 k27
  have g27 := PySem.W.mg_of X G a27
  have F28 := fun_mk (st := sTurn) l28 c28 k28
  have g28 := PySem.W.mg_of X G a28
  have F29 := fun_mk (st := sWord) l29 c29 k29
  have g29 := PySem.W.mg_of X G a29
  have F30 := fun_mk (st := sLTurned) l30 c30 k30
  have g30 := PySem.W.mg_of X G a30
  have F31 := fun_mk (st := sItems) l31 c31 k31
  have g31 := PySem.W.mg_of X G a31
  have F32 := fun_mk (st := sLf) l32 c32 k32
  have g32 := PySem.W.mg_of X G a32
  have F33 := fun_mk (st := sLAfter) l33 c33 k33
  have g33 := PySem.W.mg_of X G a33
  have F34 := fun_mk (st := sGroup) l34 c34 k34
  have g34 := PySem.W.mg_of X G a34
  have F35 := fun_mk (st := sRo) l35 c35 k35
  have g35 := PySem.W.mg_of X G a35
  have F36 := fun_mk (st := sLaw) l36 c36 k36
  have g36 := PySem.W.mg_of X G a36
  have gT := PySem.W.mg_of X G eT
  have TC : TmC K Ct := ⟨tc, tna, tnp⟩
  have E1 : ErrC K mg "InvalidLetters" C1 := ⟨x1, PySem.W.mg_of X G e1, nc1, np1, xf1⟩
  have E2 : ErrC K mg "UnknownLetter" C2 := ⟨x2, PySem.W.mg_of X G e2, nc2, np2, xf2⟩
  have E3 : ErrC K mg "NoTemplate" C3 := ⟨x3, PySem.W.mg_of X G e3, nc3, np3, xf3⟩
  have h_FillError := PySem.W.mg_of X G b1
  have h_Missing := PySem.W.mg_of X G b2
  have h_LEAST_LETTERS := PySem.W.mg_of X G v1
  have h_MOST_LETTERS := PySem.W.mg_of X G v2
  have h_LOWERCASE := PySem.W.mg_of X G v3
  have h_EMPTY_TEXT := PySem.W.mg_of X G v4
  have h_PLAIN_BLANK := PySem.W.mg_of X G v5
  have m_enumerate := PySem.W.mg_none_of X G z1
  have m_int := PySem.W.mg_none_of X G z2
  have m_list := PySem.W.mg_none_of X G z3
  have m_len := PySem.W.mg_none_of X G z4
  have m_isinstance := PySem.W.mg_none_of X G z5
  have m_tuple := PySem.W.mg_none_of X G z6
  have m_all := PySem.W.mg_none_of X G z7
  have m_zip := PySem.W.mg_none_of X G z8
  have m_bool := PySem.W.mg_none_of X G z9
  have m_str := PySem.W.mg_none_of X G z10
  have m_min := PySem.W.mg_none_of X G z11
  have m_range := PySem.W.mg_none_of X G z12
  have m_sorted := PySem.W.mg_none_of X G z13
  have m_dict := PySem.W.mg_none_of X G z14
  have d1 := F1.binds (ps := ["letters"]) fun _ _ _ _ _ _ us hl => match us, hl with | [_], _ => rfl
  have d5 := F5.binds (ps := ["letters", "text"]) fun _ _ _ _ _ _ us hl => match us, hl with | [_, _], _ => rfl
  have d3 := F3.binds (ps := ["self", "position"]) fun _ _ _ _ _ _ us hl => match us, hl with | [_, _], _ => rfl
  have d2 := F2.binds (ps := ["self"]) fun _ _ _ _ _ _ us hl => match us, hl with | [_], _ => rfl
  have d4 := F4.binds (ps := ["self"]) fun _ _ _ _ _ _ us hl => match us, hl with | [_], _ => rfl
  have d6 := F6.binds (ps := ["letters", "turn"]) fun _ _ _ _ _ _ us hl => match us, hl with | [_, _], _ => rfl
  have d7 := F7.binds (ps := ["letters", "turn", "text"]) fun _ _ _ _ _ _ us hl => match us, hl with | [_, _, _], _ => rfl
  have d8 := F8.binds (ps := ["item"]) fun _ _ _ _ _ _ us hl => match us, hl with | [_], _ => rfl
  have d9 := F9.binds (ps := ["letters", "text", "at"]) fun _ _ _ _ _ _ us hl => match us, hl with | [_, _, _], _ => rfl
  have d10 := F10.binds (ps := ["letters", "text"]) fun _ _ _ _ _ _ us hl => match us, hl with | [_, _], _ => rfl
  have d11 := F11.binds (ps := ["letters", "item"]) fun _ _ _ _ _ _ us hl => match us, hl with | [_, _], _ => rfl
  have d12 := F12.binds (ps := ["letters", "row"]) fun _ _ _ _ _ _ us hl => match us, hl with | [_, _], _ => rfl
  have d13 := F13.binds (ps := ["letters", "turn", "row"]) fun _ _ _ _ _ _ us hl => match us, hl with | [_, _, _], _ => rfl
  have d14 := F14.binds (ps := ["letters", "row", "inner"]) fun _ _ _ _ _ _ us hl => match us, hl with | [_, _, _], _ => rfl
  have d15 := F15.binds (ps := ["self", "letters", "text"]) fun _ _ _ _ _ _ us hl => match us, hl with | [_, _, _], _ => rfl
  have d16 := F16.binds (ps := ["self"]) fun _ _ _ _ _ _ us hl => match us, hl with | [_], _ => rfl
  have d17 := F17.binds (ps := ["self", "text"]) fun _ _ _ _ _ _ us hl => match us, hl with | [_, _], _ => rfl
  have d18 := F18.binds (ps := ["letters", "size"]) fun _ _ _ _ _ _ us hl => match us, hl with | [_, _], _ => rfl
  have d19 := F19.binds (ps := ["letters", "asked", "answer", "at"]) fun _ _ _ _ _ _ us hl => match us, hl with | [_, _, _, _], _ => rfl
  have d20 := F20.binds (ps := ["letters", "size", "answer"]) fun _ _ _ _ _ _ us hl => match us, hl with | [_, _, _], _ => rfl
  have d21 := F21.binds (ps := ["_law_script"]) fun _ _ _ _ _ _ us hl => match us, hl with | [_], _ => rfl
  have d22 := F22.binds (ps := ["_law_rng", "_law_sides"]) fun _ _ _ _ _ _ us hl => match us, hl with | [_, _], _ => rfl
  have d23 := F23.binds (ps := ["_law_rng", "_law_things"]) fun _ _ _ _ _ _ us hl => match us, hl with | [_, _], _ => rfl
  have d24 := F24.binds (ps := ["_law_found", "_law_due"]) fun _ _ _ _ _ _ us hl => match us, hl with | [_, _], _ => rfl
  have d25 := F25.binds (ps := ["_law_e"]) fun _ _ _ _ _ _ us hl => match us, hl with | [_], _ => rfl
  have d26 := F26.binds (ps := ["_law_ask"]) fun _ _ _ _ _ _ us hl => match us, hl with | [_], _ => rfl
  have d27 := F27.binds (ps := ["_law_rng", "_law_most"]) fun _ _ _ _ _ _ us hl => match us, hl with | [_, _], _ => rfl
  have d28 := F28.binds (ps := ["_law_rng", "_law_signs"]) fun _ _ _ _ _ _ us hl => match us, hl with | [_, _], _ => rfl
  have d29 := F29.binds (ps := ["_law_rng", "_law_signs", "_law_most"]) fun _ _ _ _ _ _ us hl => match us, hl with | [_, _, _], _ => rfl
  have d30 := F30.binds (ps := ["_law_signs", "_law_my_turn", "_law_shown"]) fun _ _ _ _ _ _ us hl => match us, hl with | [_, _, _], _ => rfl
  have d31 := F31.binds (ps := ["_law_rng", "_law_signs", "_law_most"]) fun _ _ _ _ _ _ us hl => match us, hl with | [_, _, _], _ => rfl
  have d32 := F32.binds (ps := ["_law_signs", "_law_items_here", "_law_shown"]) fun _ _ _ _ _ _ us hl => match us, hl with | [_, _, _], _ => rfl
  have d33 := F33.binds (ps := ["_law_signs", "_law_mine", "_law_yours"]) fun _ _ _ _ _ _ us hl => match us, hl with | [_, _, _], _ => rfl
  have d34 := F34.binds (ps := ["_law_signs", "_law_turns"]) fun _ _ _ _ _ _ us hl => match us, hl with | [_, _], _ => rfl
  have d35 := F35.binds (ps := ["_law_signs", "_law_size", "_law_shown", "_law_turns"]) fun _ _ _ _ _ _ us hl => match us, hl with | [_, _, _, _], _ => rfl
  refine ⟨PySem.W.fnOf "law" "law" (defArgs sLaw) (defBody sLaw) (defScope sLaw) .none kV36 dc36 pm36 an36 (.ref cc) ct36, [(cc, Pt)], spLaw K Pt, fun p hp => by rw [List.mem_singleton.mp hp]; exact hPt, fun p hp => by rw [List.mem_singleton.mp hp]; exact nT, fun p hp => by rw [List.mem_singleton.mp hp]; exact PySem.W.codeHd_of_K X hC, fun s v => .of_eq rfl, fun H a ns _ _ hH hS => ⟨a, ns, rfl, hS, hH _ (List.Mem.head _), fun _ => rfl⟩, fun base _ _ TB => ?_⟩
  have T : SameT mg := ⟨m_isinstance, m_list, m_tuple, m_len, m_all, m_zip, m_bool, m_int, m_str⟩
  have cDr : Cl l.prog w K mg base "_law_draw" 1 ["_law_rng", "_law_sides"] spDraw f22 _ := ⟨ok_draw F22 m_int m_len, g22, F22.kp, d22⟩
  have cPk : Cl l.prog w K mg base "_law_pick" 2 ["_law_rng", "_law_things"] (spPick K) f23 _ := ⟨ok_pick F23 F22 d22 g22 m_int m_len, g23, F23.kp, d23⟩
  have cTn : Cl l.prog w K mg base "_law_turn" 2 ["_law_rng", "_law_signs"] spTurn f28 _ := ⟨ok_turn F28 F22 d22 g22 m_int m_len m_range, g28, F28.kp, d28⟩
  have cCk : Cl l.prog w K mg base "check_text" 1 ["letters", "text"] spCk f5 _ := ⟨ok_check F5 m_enumerate, g5, F5.kp, d5⟩
  have cTd : Cl l.prog w K mg base "turned" 2 ["letters", "turn", "text"] spTd f7 _ := ⟨ok_turned F7 F5 d5 g5 m_enumerate m_dict m_zip, g7, F7.kp, d7⟩
  have cBk : Cl l.prog w K mg base "is_blank" 1 ["item"] spBk f8 _ := ⟨ok_bk F8 m_len, g8, F8.kp, d8⟩
  have cIs : Cl l.prog w K mg base "is_turn" 1 ["letters", "turn"] spIs f6 _ := ⟨ok_is F6 m_sorted, g6, F6.kp, d6⟩
  have cBw : Cl l.prog w K mg base "blank_width" 2 ["letters", "text", "at"] spBw f9 _ := ⟨ok_bw F9 m_len cIs ⟨_, h_PLAIN_BLANK⟩, g9, F9.kp, d9⟩
  have cRd : Cl l.prog w K mg base "read_row" 3 ["letters", "text"] spRd f10 _ := ⟨ok_rd F10 m_len cBw ⟨_, h_EMPTY_TEXT⟩, g10, F10.kp, d10⟩
  have cTr : Cl l.prog w K mg base "turned_row" 3 ["letters", "turn", "row"] (spTr K) f13 _ := ⟨ok_tr F13 cTd, g13, F13.kp, d13⟩
  have cPu : Cl l.prog w K mg base "put_row" 4 ["letters", "row", "inner"] (spPut K) f14 _ := ⟨ok_put F14 cBk cTr, g14, F14.kp, d14⟩
  have cCL : Cl l.prog w K mg base "check_letters" 1 ["letters"] spCLn f1 _ := ⟨ok_checkLn F1 m_enumerate m_len ⟨_, h_LEAST_LETTERS⟩ ⟨_, h_MOST_LETTERS⟩ ⟨_, h_LOWERCASE⟩, g1, F1.kp, d1⟩
  have cItx : Cl l.prog w K mg base "item_text" 2 ["letters", "item"] spIt f11 _ := ⟨ok_it F11 cBk ⟨_, h_PLAIN_BLANK⟩, g11, F11.kp, d11⟩
  have cRtx : Cl l.prog w K mg base "row_text" 3 ["letters", "row"] (spRt K) f12 _ := ⟨ok_rt F12 m_len cItx ⟨_, h_EMPTY_TEXT⟩, g12, F12.kp, d12⟩
  have GCL : FnOk l.prog w K mg base (L2.CX l.prog w) 3 f1 _ ["letters"] (spCL C1) := ok_checkL F1 E1 F2 d2 a2 y2 m_enumerate m_len ⟨_, h_LEAST_LETTERS⟩ ⟨_, h_MOST_LETTERS⟩ ⟨_, h_LOWERCASE⟩
  have GCT : FnOk l.prog w K mg base (L2.CX l.prog w) 3 f5 _ ["letters", "text"] (spCT C2) := ok_checkT F5 E2 F3 d3 a3 y3 m_enumerate
  have GI : FnOk l.prog w K mg base CX0 4 f15 _ ["self", "letters", "text"] (spTi Ct) := ok_ti F15 TC m_tuple cCL cRd
  have GF : FnOk l.prog w K mg base CX0 5 f17 _ ["self", "text"] (spFi Ct) := ok_fi F17 TC cCk cPu
  have cQu : Cl l.prog w K mg base "question" 2 ["letters", "size"] spQu f18 _ := ⟨ok_qu F18 cCL, g18, F18.kp, d18⟩
  have cTA : Cl l.prog w K mg base "turn_at" 3 ["letters", "asked", "answer", "at"] spTA f19 _ := ⟨ok_ta F19 m_len cIs cTd, g19, F19.kp, d19⟩
  have GQI : FnOk l.prog w K mg base (L2.CX l.prog w) 4 f18 _ ["letters", "size"] (spQuI C1) := ok_quI F18 GCL g1 F1.kp d1
  have GRN : FnOk l.prog w K mg base (L2.CX l.prog w) 6 f20 _ ["letters", "size", "answer"] (spRTN Ct C3) := ok_rtn F20 m_len cQu cCk cTA cRtx MK gT GI d15 E3 F4 d4 a4 y4
  have GRI : FnOk l.prog w K mg base (L2.CX l.prog w) 5 f20 _ ["letters", "size", "answer"] (spRTI C1) := ok_rtI F20 GQI g18 F18.kp d18
  have GRU : FnOk l.prog w K mg base (L2.CX l.prog w) 4 f20 _ ["letters", "size", "answer"] (spRTU C2) := ok_rtU F20 cQu GCT g5 F5.kp d5
  have cDs : Cl l.prog w K mg base "_law_draws" 1 ["_law_script"] (spDraws K) f21 _ := ⟨ok_draws F21 m_int m_list, g21, F21.kp, d21⟩
  have cLt : Cl l.prog w K mg base "_law_letters" 3 ["_law_rng", "_law_most"] spLetters f27 _ := ⟨ok_letters F27 F22 d22 g22 F23 d23 g23 m_int m_len m_min m_range, g27, F27.kp, d27⟩
  have cWd : Cl l.prog w K mg base "_law_word" 3 ["_law_rng", "_law_signs", "_law_most"] spWord f29 _ := ⟨ok_word F29 F22 d22 g22 F23 d23 g23 m_int m_len m_range, g29, F29.kp, d29⟩
  have cSm : Cl l.prog w K mg base "_law_same" 3 ["_law_found", "_law_due"] (spSm K 3) f24 _ := ⟨ok_same F24 T d24 g24 3, g24, F24.kp, d24⟩
  have cLT : Cl l.prog w K mg base "_law_turned" 1 ["_law_signs", "_law_my_turn", "_law_shown"] spTd f30 _ := ⟨ok_lturned F30, g30, F30.kp, d30⟩
  have cAf : Cl l.prog w K mg base "_law_after" 2 ["_law_signs", "_law_mine", "_law_yours"] spAf f33 _ := ⟨ok_lafter F33 F30 d30 g30, g33, F33.kp, d33⟩
  have cIt : Cl l.prog w K mg base "_law_items" 3 ["_law_rng", "_law_signs", "_law_most"] spItems f31 _ := ⟨ok_items F31 m_range cDr cTn cPk, g31, F31.kp, d31⟩
  have cLf : Cl l.prog w K mg base "_law_fill" 2 ["_law_signs", "_law_items_here", "_law_shown"] (spLf K) f32 _ := ⟨ok_lf F32 m_len cLT, g32, F32.kp, d32⟩
  have cGp : Cl l.prog w K mg base "_law_group" 3 ["_law_signs", "_law_turns"] (spGrp K) f34 _ := ⟨ok_group F34 m_range m_list m_sorted cAf, g34, F34.kp, d34⟩
  have cRo : Cl l.prog w K mg base "_law_read_off" 2 ["_law_signs", "_law_size", "_law_shown", "_law_turns"] (spRo K) f35 _ := ⟨ok_ro F35 m_len m_range m_int cLT, g35, F35.kp, d35⟩
  exact ok_law l36 c36 (TB _ (List.Mem.head _)) m_range m_len TC cDs cLt cDr cGp cQu cLf cIt cPk cWd cRo cSm M16 (ok_row F16 TC m_list) d16 M17 GF d17
    GRN GRI GRU g20 F20.kp d20 GQI g18 F18.kp d18
    h_FillError h_Missing (ok_field F25) g25 F25.kp d25 F26 g26 d26 E1 xm1 E2 xm2 E3 xm3
end Own
open PySem PySem.W PyProof.Rows
set_option maxHeartbeats 0 in
theorem PySem.Challenge.cw_ownfill_k71_answers_of_no_template_holds : PySem.Challenge.rw_ownfill_k71_answers_of_no_template.Holds := by
  w_on; o_law; k_head; (case hw => w_witness2)
  k_fill
  refine LamX.walk_ofTs (l := PySem.Challenge.rw_ownfill_k71_answers_of_no_template) (n := 63) (k := 9) (x := "_law_script") (CX := fun _ => L2.CX0) rfl (by decide) rfl ⟨rfl, by decide, by decide⟩ (fun w h Y => PySem.W.km_in_of Y) ?F (fun _ _ _ _ _ h => h)
  case F =>
    intro w mg fa h Y KX G hmg
    have hT := PySem.W.km_tabs_of Y
    refine' Own.all_mk KX G hmg (hT _ (List.Mem.head _)) ?a1 ?a5 ?a6 ?a7 ?a8 ?a9 ?a10 ?a11 ?a12 ?a13 ?a14 ?a18 ?a19 ?a20 ?a21 ?a22 ?a23 ?a24 ?a25 ?a26 ?a27 ?a28 ?a29 ?a30 ?a31 ?a32 ?a33 ?a34 ?a35 ?a36 ?e1 ?e2 ?e3 ?eT ?a2 ?y2 ?a3 ?y3 ?a4 ?y4 ?a15 ?y15 ?a16 ?y16 ?a17 ?y17 ?tc ?tna ?tnp ?tmk ?tkp ?l1 ?c1 ?k1 ?l2 ?c2 ?k2 ?l3 ?c3 ?k3 ?l4 ?c4 ?k4 ?l5 ?c5 ?k5 ?l6 ?c6 ?k6 ?l7 ?c7 ?k7 ?l8 ?c8 ?k8 ?l9 ?c9 ?k9 ?l10 ?c10 ?k10 ?l11 ?c11 ?k11 ?l12 ?c12 ?k12 ?l13 ?c13 ?k13 ?l14 ?c14 ?k14 ?l15 ?c15 ?k15 ?l16 ?c16 ?k16 ?l17 ?c17 ?k17 ?l18 ?c18 ?k18 ?l19 ?c19 ?k19 ?l20 ?c20 ?k20 ?l21 ?c21 ?k21 ?l22 ?c22 ?k22 ?l23 ?c23 ?k23 ?l24 ?c24 ?k24 ?l25 ?c25 ?k25 ?l26 ?c26 ?k26 ?l27 ?c27 ?k27 ?l28 ?c28 ?k28 ?l29 ?c29 ?k29 ?l30 ?c30 ?k30 ?l31 ?c31 ?k31 ?l32 ?c32 ?k32 ?l33 ?c33 ?k33 ?l34 ?c34 ?k34 ?l35 ?c35 ?k35 ?l36 ?c36 ?k36 ?b1 ?b2 ?x1 ?xf1 ?nc1 ?np1 ?xm1 ?x2 ?xf2 ?nc2 ?np2 ?xm2 ?x3 ?xf3 ?nc3 ?np3 ?xm3 ?v1 ?v2 ?v3 ?v4 ?v5 ?nT ?hC ?z1 ?z2 ?z3 ?z4 ?z5 ?z6 ?z7 ?z8 ?z9 ?z10 ?z11 ?z12 ?z13 ?z14
    (case a1 => first | k_is | kernel_rfl)
    (case a5 => first | k_is | kernel_rfl)
    (case a6 => first | k_is | kernel_rfl)
    (case a7 => first | k_is | kernel_rfl)
    (case a8 => first | k_is | kernel_rfl)
    (case a9 => first | k_is | kernel_rfl)
    (case a10 => first | k_is | kernel_rfl)
    (case a11 => first | k_is | kernel_rfl)
    (case a12 => first | k_is | kernel_rfl)
    (case a13 => first | k_is | kernel_rfl)
    (case a14 => first | k_is | kernel_rfl)
    (case a18 => first | k_is | kernel_rfl)
    (case a19 => first | k_is | kernel_rfl)
    (case a20 => first | k_is | kernel_rfl)
    (case a21 => first | k_is | kernel_rfl)
    (case a22 => first | k_is | kernel_rfl)
    (case a23 => first | k_is | kernel_rfl)
    (case a24 => first | k_is | kernel_rfl)
    (case a25 => first | k_is | kernel_rfl)
    (case a26 => first | k_is | kernel_rfl)
    (case a27 => first | k_is | kernel_rfl)
    (case a28 => first | k_is | kernel_rfl)
    (case a29 => first | k_is | kernel_rfl)
    (case a30 => first | k_is | kernel_rfl)
    (case a31 => first | k_is | kernel_rfl)
    (case a32 => first | k_is | kernel_rfl)
    (case a33 => first | k_is | kernel_rfl)
    (case a34 => first | k_is | kernel_rfl)
    (case a35 => first | k_is | kernel_rfl)
    (case a36 => first | k_is | kernel_rfl)
    (case e1 => first | k_is | kernel_rfl)
    (case e2 => first | k_is | kernel_rfl)
    (case e3 => first | k_is | kernel_rfl)
    (case eT => first | k_is | kernel_rfl)
    (case a2 => first | k_is | kernel_rfl)
    (case y2 => first | k_is | kernel_rfl)
    (case a3 => first | k_is | kernel_rfl)
    (case y3 => first | k_is | kernel_rfl)
    (case a4 => first | k_is | kernel_rfl)
    (case y4 => first | k_is | kernel_rfl)
    (case a15 => first | k_is | kernel_rfl)
    (case y15 => first | k_is | kernel_rfl)
    (case a16 => first | k_is | kernel_rfl)
    (case y16 => first | k_is | kernel_rfl)
    (case a17 => first | k_is | kernel_rfl)
    (case y17 => first | k_is | kernel_rfl)
    (case tc => exact ⟨by first | k_is | kernel_rfl, by first | k_is | kernel_rfl, by first | k_is | kernel_rfl, by first | k_is | kernel_rfl⟩)
    (case tna => unfold L2.NoAttr; k_is)
    (case tnp => unfold L2.NoAttr; k_is)
    (case tmk => first | k_is | kernel_rfl)
    (case tkp => first | k_is | kernel_rfl)
    (case l1 => first | k_is | kernel_rfl)
    (case c1 => first | k_is | kernel_rfl)
    (case k1 => first | k_is | kernel_rfl)
    (case l2 => first | k_is | kernel_rfl)
    (case c2 => first | k_is | kernel_rfl)
    (case k2 => first | k_is | kernel_rfl)
    (case l3 => first | k_is | kernel_rfl)
    (case c3 => first | k_is | kernel_rfl)
    (case k3 => first | k_is | kernel_rfl)
    (case l4 => first | k_is | kernel_rfl)
    (case c4 => first | k_is | kernel_rfl)
    (case k4 => first | k_is | kernel_rfl)
    (case l5 => first | k_is | kernel_rfl)
    (case c5 => first | k_is | kernel_rfl)
    (case k5 => first | k_is | kernel_rfl)
    (case l6 => first | k_is | kernel_rfl)
    (case c6 => first | k_is | kernel_rfl)
    (case k6 => first | k_is | kernel_rfl)
    (case l7 => first | k_is | kernel_rfl)
    (case c7 => first | k_is | kernel_rfl)
    (case k7 => first | k_is | kernel_rfl)
    (case l8 => first | k_is | kernel_rfl)
    (case c8 => first | k_is | kernel_rfl)
    (case k8 => first | k_is | kernel_rfl)
    (case l9 => first | k_is | kernel_rfl)
    (case c9 => first | k_is | kernel_rfl)
    (case k9 => first | k_is | kernel_rfl)
    (case l10 => first | k_is | kernel_rfl)
    (case c10 => first | k_is | kernel_rfl)
    (case k10 => first | k_is | kernel_rfl)
    (case l11 => first | k_is | kernel_rfl)
    (case c11 => first | k_is | kernel_rfl)
    (case k11 => first | k_is | kernel_rfl)
    (case l12 => first | k_is | kernel_rfl)
    (case c12 => first | k_is | kernel_rfl)
    (case k12 => first | k_is | kernel_rfl)
    (case l13 => first | k_is | kernel_rfl)
    (case c13 => first | k_is | kernel_rfl)
    (case k13 => first | k_is | kernel_rfl)
    (case l14 => first | k_is | kernel_rfl)
    (case c14 => first | k_is | kernel_rfl)
    (case k14 => first | k_is | kernel_rfl)
    (case l15 => first | k_is | kernel_rfl)
    (case c15 => first | k_is | kernel_rfl)
    (case k15 => first | k_is | kernel_rfl)
    (case l16 => first | k_is | kernel_rfl)
    (case c16 => first | k_is | kernel_rfl)
    (case k16 => first | k_is | kernel_rfl)
    (case l17 => first | k_is | kernel_rfl)
    (case c17 => first | k_is | kernel_rfl)
    (case k17 => first | k_is | kernel_rfl)
    (case l18 => first | k_is | kernel_rfl)
    (case c18 => first | k_is | kernel_rfl)
    (case k18 => first | k_is | kernel_rfl)
    (case l19 => first | k_is | kernel_rfl)
    (case c19 => first | k_is | kernel_rfl)
    (case k19 => first | k_is | kernel_rfl)
    (case l20 => first | k_is | kernel_rfl)
    (case c20 => first | k_is | kernel_rfl)
    (case k20 => first | k_is | kernel_rfl)
    (case l21 => first | k_is | kernel_rfl)
    (case c21 => first | k_is | kernel_rfl)
    (case k21 => first | k_is | kernel_rfl)
    (case l22 => first | k_is | kernel_rfl)
    (case c22 => first | k_is | kernel_rfl)
    (case k22 => first | k_is | kernel_rfl)
    (case l23 => first | k_is | kernel_rfl)
    (case c23 => first | k_is | kernel_rfl)
    (case k23 => first | k_is | kernel_rfl)
    (case l24 => first | k_is | kernel_rfl)
    (case c24 => first | k_is | kernel_rfl)
    (case k24 => first | k_is | kernel_rfl)
    (case l25 => first | k_is | kernel_rfl)
    (case c25 => first | k_is | kernel_rfl)
    (case k25 => first | k_is | kernel_rfl)
    (case l26 => first | k_is | kernel_rfl)
    (case c26 => first | k_is | kernel_rfl)
    (case k26 => first | k_is | kernel_rfl)
    (case l27 => first | k_is | kernel_rfl)
    (case c27 => first | k_is | kernel_rfl)
    (case k27 => first | k_is | kernel_rfl)
    (case l28 => first | k_is | kernel_rfl)
    (case c28 => first | k_is | kernel_rfl)
    (case k28 => first | k_is | kernel_rfl)
    (case l29 => first | k_is | kernel_rfl)
    (case c29 => first | k_is | kernel_rfl)
    (case k29 => first | k_is | kernel_rfl)
    (case l30 => first | k_is | kernel_rfl)
    (case c30 => first | k_is | kernel_rfl)
    (case k30 => first | k_is | kernel_rfl)
    (case l31 => first | k_is | kernel_rfl)
    (case c31 => first | k_is | kernel_rfl)
    (case k31 => first | k_is | kernel_rfl)
    (case l32 => first | k_is | kernel_rfl)
    (case c32 => first | k_is | kernel_rfl)
    (case k32 => first | k_is | kernel_rfl)
    (case l33 => first | k_is | kernel_rfl)
    (case c33 => first | k_is | kernel_rfl)
    (case k33 => first | k_is | kernel_rfl)
    (case l34 => first | k_is | kernel_rfl)
    (case c34 => first | k_is | kernel_rfl)
    (case k34 => first | k_is | kernel_rfl)
    (case l35 => first | k_is | kernel_rfl)
    (case c35 => first | k_is | kernel_rfl)
    (case k35 => first | k_is | kernel_rfl)
    (case l36 => first | k_is | kernel_rfl)
    (case c36 => first | k_is | kernel_rfl)
    (case k36 => first | k_is | kernel_rfl)
    (case b1 => first | k_is | kernel_rfl)
    (case b2 => first | k_is | kernel_rfl)
    (case x1 => exact ⟨⟨_, _, _, _, _, _, _, _, _, _, _, _, _, _, _, by k_is, by decide +kernel⟩, by k_is, by k_is, by k_is, by k_is⟩)
    (case xf1 => exact ⟨by k_is, by k_is, by k_is, by first | k_is | kernel_rfl⟩)
    (case nc1 => first | k_is | kernel_rfl)
    (case np1 => first | k_is | kernel_rfl)
    (case xm1 => kernel_rfl)
    (case x2 => exact ⟨⟨_, _, _, _, _, _, _, _, _, _, _, _, _, _, _, by k_is, by decide +kernel⟩, by k_is, by k_is, by k_is, by k_is⟩)
    (case xf2 => exact ⟨by k_is, by k_is, by k_is, by first | k_is | kernel_rfl⟩)
    (case nc2 => first | k_is | kernel_rfl)
    (case np2 => first | k_is | kernel_rfl)
    (case xm2 => kernel_rfl)
    (case x3 => exact ⟨⟨_, _, _, _, _, _, _, _, _, _, _, _, _, _, _, by k_is, by decide +kernel⟩, by k_is, by k_is, by k_is, by k_is⟩)
    (case xf3 => exact ⟨by k_is, by k_is, by k_is, by first | k_is | kernel_rfl⟩)
    (case nc3 => first | k_is | kernel_rfl)
    (case np3 => first | k_is | kernel_rfl)
    (case xm3 => kernel_rfl)
    (case v1 => first | k_is | kernel_rfl)
    (case v2 => first | k_is | kernel_rfl)
    (case v3 => first | k_is | kernel_rfl)
    (case v4 => first | k_is | kernel_rfl)
    (case v5 => first | k_is | kernel_rfl)
    (case nT => kernel_rfl)
    (case hC => kernel_rfl)
    (case z1 => first | k_is | kernel_rfl)
    (case z2 => first | k_is | kernel_rfl)
    (case z3 => first | k_is | kernel_rfl)
    (case z4 => first | k_is | kernel_rfl)
    (case z5 => first | k_is | kernel_rfl)
    (case z6 => first | k_is | kernel_rfl)
    (case z7 => first | k_is | kernel_rfl)
    (case z8 => first | k_is | kernel_rfl)
    (case z9 => first | k_is | kernel_rfl)
    (case z10 => first | k_is | kernel_rfl)
    (case z11 => first | k_is | kernel_rfl)
    (case z12 => first | k_is | kernel_rfl)
    (case z13 => first | k_is | kernel_rfl)
    (case z14 => first | k_is | kernel_rfl)
