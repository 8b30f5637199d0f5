/- What the document's calls of Endpoints, notifications, threads make of its state (layers 15 to 22): the parts that they are made of, field by field; as mathematics. No dump is read here. -/
import Derived.Test.YtdkjfalhalepgaaJ9
namespace Go.Proofs.Ytdkjfalhalepgaa
open Go.RowKit
theorem upO_at (S : RSt) (o i : Int) (f : RObj → RObj) : (S.upO o f).ob i = if i = o then f (S.ob o) else S.ob i := rfl
theorem up_same {α : Type} {S : RSt} {o i : Int} {f : RObj → RObj} (g : RObj → α) (h : ∀ x, g (f x) = g x) : g ((S.upO o f).ob i) = g (S.ob i) := by
  rw [upO_at]
  split
  · next e => rw [e, h]
  · rfl
theorem up_set {α : Type} {S : RSt} {o i : Int} {f : RObj → RObj} (g : RObj → α) (v : α) (h : g (f (S.ob o)) = v) : g ((S.upO o f).ob i) = if i = o then v else g (S.ob i) := by
  rw [upO_at]
  split
  · exact h
  · rfl
def wakeS (S : RSt) (t w b : Int) : RSt := S.upO t fun x => { x with state := 1, word := w, badge := b, on := -1 }
def popS (S : RSt) (o : Int) : RSt := S.upO o fun x => { x with queue := x.queue.tail }
def waitS (S : RSt) (o n : Int) : RSt := S.upO o fun x => { x with wait := n }
def owedS (S : RSt) (c s : Int) : RSt := S.upO c fun x => { x with state := 4, on := -1, owing := s }
def owesS (S : RSt) (s c : Int) : RSt := S.upO s fun x => { x with owes := c }
def pushS (S : RSt) (o t : Int) : RSt := S.upO o fun x => { x with queue := x.queue ++ [t] }
def onS (S : RSt) (t o n : Int) : RSt := S.upO t fun x => { x with state := n, on := o }
def saidS (S : RSt) (t w b : Int) : RSt := S.upO t fun x => { x with word := w, badge := b }
def owingS (S : RSt) (c s : Int) : RSt := S.upO c fun x => { x with owing := s }
def wordS (S : RSt) (o n : Int) : RSt := S.upO o fun x => { x with word := n }
def stopS (S : RSt) (t : Int) : RSt := S.upO t fun x => { x with state := 0, on := -1 }
def prioS (S : RSt) (t n : Int) : RSt := S.upO t fun x => { x with prio := n }
def rootS (S : RSt) (t : Int) (c : Cp) : RSt := S.upO t fun x => { x with root := c }
def queueS (S : RSt) (o : Int) (l : List Int) : RSt := S.upO o fun x => { x with queue := l }
theorem wakeS_kind (S : RSt) (t w b : Int) (i : Int) : ((wakeS S t w b).ob i).kind = (S.ob i).kind := up_same RObj.kind (fun _ => rfl)
theorem wakeS_queue (S : RSt) (t w b : Int) (i : Int) : ((wakeS S t w b).ob i).queue = (S.ob i).queue := up_same RObj.queue (fun _ => rfl)
theorem wakeS_on (S : RSt) (t w b : Int) (i : Int) : ((wakeS S t w b).ob i).on = if i = t then -1 else (S.ob i).on := up_set RObj.on _ rfl
theorem wakeS_state (S : RSt) (t w b : Int) (i : Int) : ((wakeS S t w b).ob i).state = if i = t then 1 else (S.ob i).state := up_set RObj.state _ rfl
theorem wakeS_wait (S : RSt) (t w b : Int) (i : Int) : ((wakeS S t w b).ob i).wait = (S.ob i).wait := up_same RObj.wait (fun _ => rfl)
theorem wakeS_owing (S : RSt) (t w b : Int) (i : Int) : ((wakeS S t w b).ob i).owing = (S.ob i).owing := up_same RObj.owing (fun _ => rfl)
theorem wakeS_owes (S : RSt) (t w b : Int) (i : Int) : ((wakeS S t w b).ob i).owes = (S.ob i).owes := up_same RObj.owes (fun _ => rfl)
theorem wakeS_prio (S : RSt) (t w b : Int) (i : Int) : ((wakeS S t w b).ob i).prio = (S.ob i).prio := up_same RObj.prio (fun _ => rfl)
theorem popS_kind (S : RSt) (o : Int) (i : Int) : ((popS S o).ob i).kind = (S.ob i).kind := up_same RObj.kind (fun _ => rfl)
theorem popS_queue (S : RSt) (o : Int) (i : Int) : ((popS S o).ob i).queue = if i = o then (S.ob o).queue.tail else (S.ob i).queue := up_set RObj.queue _ rfl
theorem popS_on (S : RSt) (o : Int) (i : Int) : ((popS S o).ob i).on = (S.ob i).on := up_same RObj.on (fun _ => rfl)
theorem popS_state (S : RSt) (o : Int) (i : Int) : ((popS S o).ob i).state = (S.ob i).state := up_same RObj.state (fun _ => rfl)
theorem popS_wait (S : RSt) (o : Int) (i : Int) : ((popS S o).ob i).wait = (S.ob i).wait := up_same RObj.wait (fun _ => rfl)
theorem popS_owing (S : RSt) (o : Int) (i : Int) : ((popS S o).ob i).owing = (S.ob i).owing := up_same RObj.owing (fun _ => rfl)
theorem popS_owes (S : RSt) (o : Int) (i : Int) : ((popS S o).ob i).owes = (S.ob i).owes := up_same RObj.owes (fun _ => rfl)
theorem popS_word (S : RSt) (o : Int) (i : Int) : ((popS S o).ob i).word = (S.ob i).word := up_same RObj.word (fun _ => rfl)
theorem popS_badge (S : RSt) (o : Int) (i : Int) : ((popS S o).ob i).badge = (S.ob i).badge := up_same RObj.badge (fun _ => rfl)
theorem popS_prio (S : RSt) (o : Int) (i : Int) : ((popS S o).ob i).prio = (S.ob i).prio := up_same RObj.prio (fun _ => rfl)
theorem waitS_kind (S : RSt) (o n : Int) (i : Int) : ((waitS S o n).ob i).kind = (S.ob i).kind := up_same RObj.kind (fun _ => rfl)
theorem waitS_queue (S : RSt) (o n : Int) (i : Int) : ((waitS S o n).ob i).queue = (S.ob i).queue := up_same RObj.queue (fun _ => rfl)
theorem waitS_on (S : RSt) (o n : Int) (i : Int) : ((waitS S o n).ob i).on = (S.ob i).on := up_same RObj.on (fun _ => rfl)
theorem waitS_state (S : RSt) (o n : Int) (i : Int) : ((waitS S o n).ob i).state = (S.ob i).state := up_same RObj.state (fun _ => rfl)
theorem waitS_wait (S : RSt) (o n : Int) (i : Int) : ((waitS S o n).ob i).wait = if i = o then n else (S.ob i).wait := up_set RObj.wait _ rfl
theorem waitS_owing (S : RSt) (o n : Int) (i : Int) : ((waitS S o n).ob i).owing = (S.ob i).owing := up_same RObj.owing (fun _ => rfl)
theorem waitS_owes (S : RSt) (o n : Int) (i : Int) : ((waitS S o n).ob i).owes = (S.ob i).owes := up_same RObj.owes (fun _ => rfl)
theorem waitS_word (S : RSt) (o n : Int) (i : Int) : ((waitS S o n).ob i).word = (S.ob i).word := up_same RObj.word (fun _ => rfl)
theorem waitS_badge (S : RSt) (o n : Int) (i : Int) : ((waitS S o n).ob i).badge = (S.ob i).badge := up_same RObj.badge (fun _ => rfl)
theorem waitS_prio (S : RSt) (o n : Int) (i : Int) : ((waitS S o n).ob i).prio = (S.ob i).prio := up_same RObj.prio (fun _ => rfl)
theorem owedS_kind (S : RSt) (c s : Int) (i : Int) : ((owedS S c s).ob i).kind = (S.ob i).kind := up_same RObj.kind (fun _ => rfl)
theorem owedS_queue (S : RSt) (c s : Int) (i : Int) : ((owedS S c s).ob i).queue = (S.ob i).queue := up_same RObj.queue (fun _ => rfl)
theorem owedS_on (S : RSt) (c s : Int) (i : Int) : ((owedS S c s).ob i).on = if i = c then -1 else (S.ob i).on := up_set RObj.on _ rfl
theorem owedS_state (S : RSt) (c s : Int) (i : Int) : ((owedS S c s).ob i).state = if i = c then 4 else (S.ob i).state := up_set RObj.state _ rfl
theorem owedS_wait (S : RSt) (c s : Int) (i : Int) : ((owedS S c s).ob i).wait = (S.ob i).wait := up_same RObj.wait (fun _ => rfl)
theorem owedS_owing (S : RSt) (c s : Int) (i : Int) : ((owedS S c s).ob i).owing = if i = c then s else (S.ob i).owing := up_set RObj.owing _ rfl
theorem owedS_owes (S : RSt) (c s : Int) (i : Int) : ((owedS S c s).ob i).owes = (S.ob i).owes := up_same RObj.owes (fun _ => rfl)
theorem owedS_prio (S : RSt) (c s : Int) (i : Int) : ((owedS S c s).ob i).prio = (S.ob i).prio := up_same RObj.prio (fun _ => rfl)
theorem owesS_kind (S : RSt) (s c : Int) (i : Int) : ((owesS S s c).ob i).kind = (S.ob i).kind := up_same RObj.kind (fun _ => rfl)
theorem owesS_queue (S : RSt) (s c : Int) (i : Int) : ((owesS S s c).ob i).queue = (S.ob i).queue := up_same RObj.queue (fun _ => rfl)
theorem owesS_on (S : RSt) (s c : Int) (i : Int) : ((owesS S s c).ob i).on = (S.ob i).on := up_same RObj.on (fun _ => rfl)
theorem owesS_state (S : RSt) (s c : Int) (i : Int) : ((owesS S s c).ob i).state = (S.ob i).state := up_same RObj.state (fun _ => rfl)
theorem owesS_wait (S : RSt) (s c : Int) (i : Int) : ((owesS S s c).ob i).wait = (S.ob i).wait := up_same RObj.wait (fun _ => rfl)
theorem owesS_owing (S : RSt) (s c : Int) (i : Int) : ((owesS S s c).ob i).owing = (S.ob i).owing := up_same RObj.owing (fun _ => rfl)
theorem owesS_owes (S : RSt) (s c : Int) (i : Int) : ((owesS S s c).ob i).owes = if i = s then c else (S.ob i).owes := up_set RObj.owes _ rfl
theorem owesS_prio (S : RSt) (s c : Int) (i : Int) : ((owesS S s c).ob i).prio = (S.ob i).prio := up_same RObj.prio (fun _ => rfl)
theorem pushS_kind (S : RSt) (o t : Int) (i : Int) : ((pushS S o t).ob i).kind = (S.ob i).kind := up_same RObj.kind (fun _ => rfl)
theorem pushS_queue (S : RSt) (o t : Int) (i : Int) : ((pushS S o t).ob i).queue = if i = o then (S.ob o).queue ++ [t] else (S.ob i).queue := up_set RObj.queue _ rfl
theorem pushS_on (S : RSt) (o t : Int) (i : Int) : ((pushS S o t).ob i).on = (S.ob i).on := up_same RObj.on (fun _ => rfl)
theorem pushS_state (S : RSt) (o t : Int) (i : Int) : ((pushS S o t).ob i).state = (S.ob i).state := up_same RObj.state (fun _ => rfl)
theorem pushS_wait (S : RSt) (o t : Int) (i : Int) : ((pushS S o t).ob i).wait = (S.ob i).wait := up_same RObj.wait (fun _ => rfl)
theorem pushS_owing (S : RSt) (o t : Int) (i : Int) : ((pushS S o t).ob i).owing = (S.ob i).owing := up_same RObj.owing (fun _ => rfl)
theorem pushS_owes (S : RSt) (o t : Int) (i : Int) : ((pushS S o t).ob i).owes = (S.ob i).owes := up_same RObj.owes (fun _ => rfl)
theorem pushS_prio (S : RSt) (o t : Int) (i : Int) : ((pushS S o t).ob i).prio = (S.ob i).prio := up_same RObj.prio (fun _ => rfl)
theorem onS_kind (S : RSt) (t o n : Int) (i : Int) : ((onS S t o n).ob i).kind = (S.ob i).kind := up_same RObj.kind (fun _ => rfl)
theorem onS_queue (S : RSt) (t o n : Int) (i : Int) : ((onS S t o n).ob i).queue = (S.ob i).queue := up_same RObj.queue (fun _ => rfl)
theorem onS_on (S : RSt) (t o n : Int) (i : Int) : ((onS S t o n).ob i).on = if i = t then o else (S.ob i).on := up_set RObj.on _ rfl
theorem onS_state (S : RSt) (t o n : Int) (i : Int) : ((onS S t o n).ob i).state = if i = t then n else (S.ob i).state := up_set RObj.state _ rfl
theorem onS_wait (S : RSt) (t o n : Int) (i : Int) : ((onS S t o n).ob i).wait = (S.ob i).wait := up_same RObj.wait (fun _ => rfl)
theorem onS_owing (S : RSt) (t o n : Int) (i : Int) : ((onS S t o n).ob i).owing = (S.ob i).owing := up_same RObj.owing (fun _ => rfl)
theorem onS_owes (S : RSt) (t o n : Int) (i : Int) : ((onS S t o n).ob i).owes = (S.ob i).owes := up_same RObj.owes (fun _ => rfl)
theorem onS_prio (S : RSt) (t o n : Int) (i : Int) : ((onS S t o n).ob i).prio = (S.ob i).prio := up_same RObj.prio (fun _ => rfl)
theorem saidS_kind (S : RSt) (t w b : Int) (i : Int) : ((saidS S t w b).ob i).kind = (S.ob i).kind := up_same RObj.kind (fun _ => rfl)
theorem saidS_queue (S : RSt) (t w b : Int) (i : Int) : ((saidS S t w b).ob i).queue = (S.ob i).queue := up_same RObj.queue (fun _ => rfl)
theorem saidS_on (S : RSt) (t w b : Int) (i : Int) : ((saidS S t w b).ob i).on = (S.ob i).on := up_same RObj.on (fun _ => rfl)
theorem saidS_state (S : RSt) (t w b : Int) (i : Int) : ((saidS S t w b).ob i).state = (S.ob i).state := up_same RObj.state (fun _ => rfl)
theorem saidS_wait (S : RSt) (t w b : Int) (i : Int) : ((saidS S t w b).ob i).wait = (S.ob i).wait := up_same RObj.wait (fun _ => rfl)
theorem saidS_owing (S : RSt) (t w b : Int) (i : Int) : ((saidS S t w b).ob i).owing = (S.ob i).owing := up_same RObj.owing (fun _ => rfl)
theorem saidS_owes (S : RSt) (t w b : Int) (i : Int) : ((saidS S t w b).ob i).owes = (S.ob i).owes := up_same RObj.owes (fun _ => rfl)
theorem saidS_prio (S : RSt) (t w b : Int) (i : Int) : ((saidS S t w b).ob i).prio = (S.ob i).prio := up_same RObj.prio (fun _ => rfl)
theorem owingS_kind (S : RSt) (c s : Int) (i : Int) : ((owingS S c s).ob i).kind = (S.ob i).kind := up_same RObj.kind (fun _ => rfl)
theorem owingS_queue (S : RSt) (c s : Int) (i : Int) : ((owingS S c s).ob i).queue = (S.ob i).queue := up_same RObj.queue (fun _ => rfl)
theorem owingS_on (S : RSt) (c s : Int) (i : Int) : ((owingS S c s).ob i).on = (S.ob i).on := up_same RObj.on (fun _ => rfl)
theorem owingS_state (S : RSt) (c s : Int) (i : Int) : ((owingS S c s).ob i).state = (S.ob i).state := up_same RObj.state (fun _ => rfl)
theorem owingS_wait (S : RSt) (c s : Int) (i : Int) : ((owingS S c s).ob i).wait = (S.ob i).wait := up_same RObj.wait (fun _ => rfl)
theorem owingS_owing (S : RSt) (c s : Int) (i : Int) : ((owingS S c s).ob i).owing = if i = c then s else (S.ob i).owing := up_set RObj.owing _ rfl
theorem owingS_owes (S : RSt) (c s : Int) (i : Int) : ((owingS S c s).ob i).owes = (S.ob i).owes := up_same RObj.owes (fun _ => rfl)
theorem owingS_prio (S : RSt) (c s : Int) (i : Int) : ((owingS S c s).ob i).prio = (S.ob i).prio := up_same RObj.prio (fun _ => rfl)
theorem wordS_kind (S : RSt) (o n : Int) (i : Int) : ((wordS S o n).ob i).kind = (S.ob i).kind := up_same RObj.kind (fun _ => rfl)
theorem wordS_queue (S : RSt) (o n : Int) (i : Int) : ((wordS S o n).ob i).queue = (S.ob i).queue := up_same RObj.queue (fun _ => rfl)
theorem wordS_on (S : RSt) (o n : Int) (i : Int) : ((wordS S o n).ob i).on = (S.ob i).on := up_same RObj.on (fun _ => rfl)
theorem wordS_state (S : RSt) (o n : Int) (i : Int) : ((wordS S o n).ob i).state = (S.ob i).state := up_same RObj.state (fun _ => rfl)
theorem wordS_wait (S : RSt) (o n : Int) (i : Int) : ((wordS S o n).ob i).wait = (S.ob i).wait := up_same RObj.wait (fun _ => rfl)
theorem wordS_owing (S : RSt) (o n : Int) (i : Int) : ((wordS S o n).ob i).owing = (S.ob i).owing := up_same RObj.owing (fun _ => rfl)
theorem wordS_owes (S : RSt) (o n : Int) (i : Int) : ((wordS S o n).ob i).owes = (S.ob i).owes := up_same RObj.owes (fun _ => rfl)
theorem wordS_prio (S : RSt) (o n : Int) (i : Int) : ((wordS S o n).ob i).prio = (S.ob i).prio := up_same RObj.prio (fun _ => rfl)
theorem stopS_kind (S : RSt) (t : Int) (i : Int) : ((stopS S t).ob i).kind = (S.ob i).kind := up_same RObj.kind (fun _ => rfl)
theorem stopS_queue (S : RSt) (t : Int) (i : Int) : ((stopS S t).ob i).queue = (S.ob i).queue := up_same RObj.queue (fun _ => rfl)
theorem stopS_on (S : RSt) (t : Int) (i : Int) : ((stopS S t).ob i).on = if i = t then -1 else (S.ob i).on := up_set RObj.on _ rfl
theorem stopS_state (S : RSt) (t : Int) (i : Int) : ((stopS S t).ob i).state = if i = t then 0 else (S.ob i).state := up_set RObj.state _ rfl
theorem stopS_wait (S : RSt) (t : Int) (i : Int) : ((stopS S t).ob i).wait = (S.ob i).wait := up_same RObj.wait (fun _ => rfl)
theorem stopS_owing (S : RSt) (t : Int) (i : Int) : ((stopS S t).ob i).owing = (S.ob i).owing := up_same RObj.owing (fun _ => rfl)
theorem stopS_owes (S : RSt) (t : Int) (i : Int) : ((stopS S t).ob i).owes = (S.ob i).owes := up_same RObj.owes (fun _ => rfl)
theorem stopS_prio (S : RSt) (t : Int) (i : Int) : ((stopS S t).ob i).prio = (S.ob i).prio := up_same RObj.prio (fun _ => rfl)
theorem prioS_kind (S : RSt) (t n : Int) (i : Int) : ((prioS S t n).ob i).kind = (S.ob i).kind := up_same RObj.kind (fun _ => rfl)
theorem prioS_queue (S : RSt) (t n : Int) (i : Int) : ((prioS S t n).ob i).queue = (S.ob i).queue := up_same RObj.queue (fun _ => rfl)
theorem prioS_on (S : RSt) (t n : Int) (i : Int) : ((prioS S t n).ob i).on = (S.ob i).on := up_same RObj.on (fun _ => rfl)
theorem prioS_state (S : RSt) (t n : Int) (i : Int) : ((prioS S t n).ob i).state = (S.ob i).state := up_same RObj.state (fun _ => rfl)
theorem prioS_wait (S : RSt) (t n : Int) (i : Int) : ((prioS S t n).ob i).wait = (S.ob i).wait := up_same RObj.wait (fun _ => rfl)
theorem prioS_owing (S : RSt) (t n : Int) (i : Int) : ((prioS S t n).ob i).owing = (S.ob i).owing := up_same RObj.owing (fun _ => rfl)
theorem prioS_owes (S : RSt) (t n : Int) (i : Int) : ((prioS S t n).ob i).owes = (S.ob i).owes := up_same RObj.owes (fun _ => rfl)
theorem prioS_prio (S : RSt) (t n : Int) (i : Int) : ((prioS S t n).ob i).prio = if i = t then n else (S.ob i).prio := up_set RObj.prio _ rfl
theorem rootS_kind (S : RSt) (t : Int) (c : Cp) (i : Int) : ((rootS S t c).ob i).kind = (S.ob i).kind := up_same RObj.kind (fun _ => rfl)
theorem rootS_queue (S : RSt) (t : Int) (c : Cp) (i : Int) : ((rootS S t c).ob i).queue = (S.ob i).queue := up_same RObj.queue (fun _ => rfl)
theorem rootS_on (S : RSt) (t : Int) (c : Cp) (i : Int) : ((rootS S t c).ob i).on = (S.ob i).on := up_same RObj.on (fun _ => rfl)
theorem rootS_state (S : RSt) (t : Int) (c : Cp) (i : Int) : ((rootS S t c).ob i).state = (S.ob i).state := up_same RObj.state (fun _ => rfl)
theorem rootS_wait (S : RSt) (t : Int) (c : Cp) (i : Int) : ((rootS S t c).ob i).wait = (S.ob i).wait := up_same RObj.wait (fun _ => rfl)
theorem rootS_owing (S : RSt) (t : Int) (c : Cp) (i : Int) : ((rootS S t c).ob i).owing = (S.ob i).owing := up_same RObj.owing (fun _ => rfl)
theorem rootS_owes (S : RSt) (t : Int) (c : Cp) (i : Int) : ((rootS S t c).ob i).owes = (S.ob i).owes := up_same RObj.owes (fun _ => rfl)
theorem rootS_word (S : RSt) (t : Int) (c : Cp) (i : Int) : ((rootS S t c).ob i).word = (S.ob i).word := up_same RObj.word (fun _ => rfl)
theorem rootS_prio (S : RSt) (t : Int) (c : Cp) (i : Int) : ((rootS S t c).ob i).prio = (S.ob i).prio := up_same RObj.prio (fun _ => rfl)
theorem rootS_root (S : RSt) (t : Int) (c : Cp) (i : Int) : ((rootS S t c).ob i).root = if i = t then c else (S.ob i).root := up_set RObj.root _ rfl
theorem queueS_kind (S : RSt) (o : Int) (l : List Int) (i : Int) : ((queueS S o l).ob i).kind = (S.ob i).kind := up_same RObj.kind (fun _ => rfl)
theorem queueS_queue (S : RSt) (o : Int) (l : List Int) (i : Int) : ((queueS S o l).ob i).queue = if i = o then l else (S.ob i).queue := up_set RObj.queue _ rfl
theorem queueS_on (S : RSt) (o : Int) (l : List Int) (i : Int) : ((queueS S o l).ob i).on = (S.ob i).on := up_same RObj.on (fun _ => rfl)
theorem queueS_state (S : RSt) (o : Int) (l : List Int) (i : Int) : ((queueS S o l).ob i).state = (S.ob i).state := up_same RObj.state (fun _ => rfl)
theorem queueS_wait (S : RSt) (o : Int) (l : List Int) (i : Int) : ((queueS S o l).ob i).wait = (S.ob i).wait := up_same RObj.wait (fun _ => rfl)
theorem queueS_owing (S : RSt) (o : Int) (l : List Int) (i : Int) : ((queueS S o l).ob i).owing = (S.ob i).owing := up_same RObj.owing (fun _ => rfl)
theorem queueS_owes (S : RSt) (o : Int) (l : List Int) (i : Int) : ((queueS S o l).ob i).owes = (S.ob i).owes := up_same RObj.owes (fun _ => rfl)
theorem queueS_prio (S : RSt) (o : Int) (l : List Int) (i : Int) : ((queueS S o l).ob i).prio = (S.ob i).prio := up_same RObj.prio (fun _ => rfl)
section
variable {S : RSt} {o : Int} {f : RObj → RObj} {x : RObj}
theorem Sok.upO (h : Sok S) (hf : 0 ≤ o ∧ o < 32 → (S.ob o).FitO → (f (S.ob o)).FitO) : Sok (S.upO o f) := ⟨h.tree, h.out, h.may, fun i hi => by
  rw [upO_at]
  split
  · next e => exact hf ⟨by omega, by omega⟩ (by rw [← e]; exact h.obs i hi)
  · exact h.obs i hi, h.ns, h.no⟩
def b40 (n : Int) : Prop := 0 ≤ n ∧ n ≤ 1099511627776
def m40' (n : Int) : Prop := -1 ≤ n ∧ n ≤ 1099511627776
theorem Sok.wakeS {t w b : Int} (h : Sok S) (hword : b40 w) (hbadge : b40 b) : Sok (Go.Proofs.Ytdkjfalhalepgaa.wakeS S t w b) := h.upO fun _ hx => { hx with state := ⟨show (0 : Int) ≤ 1 by decide, show (1 : Int) ≤ 1099511627776 by decide⟩, word := hword, badge := hbadge, on := ⟨show (-1 : Int) ≤ -1 by decide, show (-1 : Int) ≤ 1099511627776 by decide⟩, pg := hx.pg, rt := hx.rt }
theorem Sok.popS {o : Int} (h : Sok S)  : Sok (Go.Proofs.Ytdkjfalhalepgaa.popS S o) := h.upO fun _ hx => { hx with qin := fun t ht => hx.qin t (List.mem_of_mem_tail ht), qlen := by have := hx.qlen; show (S.ob o).queue.tail.length ≤ 500; rw [List.length_tail]; omega, pg := hx.pg, rt := hx.rt }
theorem Sok.waitS {o n : Int} (h : Sok S) (hwait : b40 n) : Sok (Go.Proofs.Ytdkjfalhalepgaa.waitS S o n) := h.upO fun _ hx => { hx with wait := hwait, pg := hx.pg, rt := hx.rt }
theorem Sok.owedS {c s : Int} (h : Sok S) (howing : m40' s) : Sok (Go.Proofs.Ytdkjfalhalepgaa.owedS S c s) := h.upO fun _ hx => { hx with state := ⟨show (0 : Int) ≤ 4 by decide, show (4 : Int) ≤ 1099511627776 by decide⟩, on := ⟨show (-1 : Int) ≤ -1 by decide, show (-1 : Int) ≤ 1099511627776 by decide⟩, owing := howing, pg := hx.pg, rt := hx.rt }
theorem Sok.owesS {s c : Int} (h : Sok S) (howes : m40' c) : Sok (Go.Proofs.Ytdkjfalhalepgaa.owesS S s c) := h.upO fun _ hx => { hx with owes := howes, pg := hx.pg, rt := hx.rt }
theorem Sok.pushS {o t : Int} (h : Sok S) (ht : 0 ≤ t ∧ t < 32) (hl : (S.ob o).queue.length < 500) : Sok (Go.Proofs.Ytdkjfalhalepgaa.pushS S o t) := h.upO fun _ hx => { hx with qin := fun y hy => (List.mem_append.1 hy).elim (hx.qin y) (fun e => List.mem_singleton.1 e ▸ ht), qlen := by show ((S.ob o).queue ++ [t]).length ≤ 500; simp; omega, pg := hx.pg, rt := hx.rt }
theorem Sok.onS {t o n : Int} (h : Sok S) (hstate : b40 n) (hon : m40' o) : Sok (Go.Proofs.Ytdkjfalhalepgaa.onS S t o n) := h.upO fun _ hx => { hx with state := hstate, on := hon, pg := hx.pg, rt := hx.rt }
theorem Sok.saidS {t w b : Int} (h : Sok S) (hword : b40 w) (hbadge : b40 b) : Sok (Go.Proofs.Ytdkjfalhalepgaa.saidS S t w b) := h.upO fun _ hx => { hx with word := hword, badge := hbadge, pg := hx.pg, rt := hx.rt }
theorem Sok.owingS {c s : Int} (h : Sok S) (howing : m40' s) : Sok (Go.Proofs.Ytdkjfalhalepgaa.owingS S c s) := h.upO fun _ hx => { hx with owing := howing, pg := hx.pg, rt := hx.rt }
theorem Sok.wordS {o n : Int} (h : Sok S) (hword : b40 n) : Sok (Go.Proofs.Ytdkjfalhalepgaa.wordS S o n) := h.upO fun _ hx => { hx with word := hword, pg := hx.pg, rt := hx.rt }
theorem Sok.stopS {t : Int} (h : Sok S)  : Sok (Go.Proofs.Ytdkjfalhalepgaa.stopS S t) := h.upO fun _ hx => { hx with state := ⟨show (0 : Int) ≤ 0 by decide, show (0 : Int) ≤ 1099511627776 by decide⟩, on := ⟨show (-1 : Int) ≤ -1 by decide, show (-1 : Int) ≤ 1099511627776 by decide⟩, pg := hx.pg, rt := hx.rt }
theorem Sok.prioS {t n : Int} (h : Sok S) (hprio : b40 n) : Sok (Go.Proofs.Ytdkjfalhalepgaa.prioS S t n) := h.upO fun _ hx => { hx with prio := hprio, pg := hx.pg, rt := hx.rt }
theorem Sok.rootS {t : Int} {c : Cp} (h : Sok S) (hc : c.Small) : Sok (Go.Proofs.Ytdkjfalhalepgaa.rootS S t c) := h.upO fun _ hx => { hx with root := hc, pg := hx.pg, rt := hx.rt }
theorem Sok.queueS {o : Int} {l : List Int} (h : Sok S) (hl : (∀ t, t ∈ l → 0 ≤ t ∧ t < 32) ∧ l.length ≤ 500) : Sok (Go.Proofs.Ytdkjfalhalepgaa.queueS S o l) := h.upO fun _ hx => { hx with qin := hl.1, qlen := hl.2, pg := hx.pg, rt := hx.rt }
end
end Go.Proofs.Ytdkjfalhalepgaa
