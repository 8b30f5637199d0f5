// Package whole tests what holds of all layers together.
package whole

import (
	"iter"

	"padstone/api"
	"padstone/call"
	"padstone/cdt"
	"padstone/cspace"
	"padstone/derive"
	"padstone/desc"
	"padstone/endp"
	"padstone/guard"
	"padstone/invoke"
	"padstone/irq"
	"padstone/kernel"
	"padstone/lay"
	"padstone/ntfn"
	"padstone/pack"
	"padstone/queue"
	"padstone/replay"
	"padstone/rights"
	"padstone/space"
	"padstone/stm"
	"padstone/tcb"
	"padstone/tx"
	"padstone/untyped"
	"padstone/view"
	"padstone/word"
)

type vw = view.View

// The calls that the chapters list, as they list them: this doesn't build if
// one lacks, or has another signature.

// Layers 1 to 5.
var (
	_ func(int, uint32) (*word.Store, error)          = word.New
	_ func(*word.Store, int) (api.Cell, error)        = (*word.Store).Read
	_ func(*word.Store, int, uint32, int) error       = (*word.Store).Reserve
	_ func(*word.Store, int, int) error               = (*word.Store).Release
	_ func(*word.Store, int, int, uint64) error       = (*word.Store).Put
	_ func(*word.Store, int, uint64) error            = (*word.Store).Set
	_ func(*word.Store) int                           = (*word.Store).Len
	_ func(*word.Store) uint32                        = (*word.Store).Limit
	_ func(*word.Store) []uint64                      = (*word.Store).Values
	_ func(api.Cap) bool                              = pack.May
	_ func(api.Cap) (uint64, error)                   = pack.Put
	_ func(uint64) (api.Cap, error)                   = pack.Get
	_ func(api.Cap, int) bool                         = rights.Has
	_ func(api.Cap, int) (api.Cap, error)             = rights.Derive
	_ func(api.Cap, int, int) (api.Cap, error)        = rights.Mint
	_ func(api.Cap, int, int) (api.Cap, error)        = rights.Mutate
	_ func(api.Cap, api.Cap) bool                     = rights.Within
	_ func(int, int, int) (int, error)                = guard.Top
	_ func(int, int, int, int, int) (int, int, error) = guard.Walk
	_ func([]int, []int) (int, error)                 = guard.Join
	_ view.View                                       = view.Plain([]uint64(nil))
	_ func(view.Plain, int) uint64                    = view.Plain.Read
	_ func(view.Plain, int, uint64)                   = view.Plain.Write
	_ func(vw, int, int) iter.Seq2[int, uint64]       = view.Range
	_ func([]uint64, []uint64) []view.Pair[uint64]    = view.Changed
	_ func(map[int]string) []view.Pair[string]        = view.Of[string]
	_                                                 = view.Pair[string]{At: 0, Val: ""}
)

// Layers 6 to 8.
var (
	_ func(int) *tx.Tx                                    = tx.New
	_ func(*tx.Tx, func(vw)) (int, bool)                  = (*tx.Tx).Run
	_ func(*tx.Tx, int, api.Cell)                         = (*tx.Tx).Learn
	_ func(*tx.Tx) []tx.Entry                             = (*tx.Tx).Entries
	_ func(*tx.Tx) int                                    = (*tx.Tx).Reads
	_                                                     = tx.Entry{Cell: 0, Version: uint32(0), Old: uint64(0), New: uint64(0), Write: false}
	_ func(int, []tx.Entry) *desc.Desc                    = desc.New
	_ func(*desc.Desc, *word.Store) int                   = (*desc.Desc).Step
	_ func(*desc.Desc) int                                = (*desc.Desc).Status
	_ func(*desc.Desc) bool                               = (*desc.Desc).Over
	_ func(*desc.Desc) int                                = (*desc.Desc).Mark
	_ func(*word.Store, []stm.Feed) (*stm.Machine, error) = stm.New
	_ func(*stm.Machine, int) bool                        = (*stm.Machine).Step
	_ func(*stm.Machine) []stm.Entry                      = (*stm.Machine).Log
	_ func(*stm.Machine) bool                             = (*stm.Machine).Idle
	_ func(*stm.Machine, int) []int                       = (*stm.Machine).Told
	_ func(*stm.Machine, int) bool                        = (*stm.Machine).Busy
	_ func([]stm.Job) stm.Feed                            = stm.List
	_ stm.Job                                             = func(vw) int { return 0 }
	_ stm.Feed                                            = func([]int) stm.Job { return nil }
	_                                                     = stm.Entry{Worker: 0, Job: 0, Told: 0, Spent: false}
)

// Layers 9 to 13.
var (
	_ func(int, int) (int, bool)                = lay.Slot
	_ func(int, int) (int, bool)                = lay.Obj
	_ func() int                                = lay.Size
	_ func(vw) (int, int)                       = lay.Used
	_ func(vw, int, int) (int, int, error)      = lay.Take
	_ func(vw, int, int) int                    = lay.Field
	_ func(vw, int, int) (int, bool)            = lay.Ref
	_ func(vw, int, int, int)                   = lay.Put
	_ func(vw, int, int) bool                   = lay.Is
	_ func(vw, int, int) error                  = cdt.Link
	_ func(vw, int) error                       = cdt.Unlink
	_ func(vw, int, int) error                  = cdt.Replace
	_ func(vw, int) int                         = cdt.Parent
	_ func(vw, int) []int                       = cdt.Kids
	_ func(vw, int) int                         = cdt.Leaf
	_ func(vw, int) api.Cap                     = cspace.Cap
	_ func(vw, int, api.Cap) error              = cspace.Set
	_ func(vw, api.Cap, int) (int, error)       = cspace.Lookup
	_ func(vw, api.Cap) bool                    = cspace.Fine
	_ func(vw, int, int, int) error             = derive.Copy
	_ func(vw, int, int, int, int) error        = derive.Mint
	_ func(vw, int, int) error                  = derive.Move
	_ func(vw, int, int, int, int) error        = derive.Mutate
	_ func(vw, int) error                       = derive.Delete
	_ func(vw, int) (bool, error)               = derive.One
	_ func(int, int) (int, bool)                = untyped.Cost
	_ func(vw, int, int, int, int) (int, error) = untyped.Retype
	_ func(vw, int) int                         = untyped.Left
)

// Layers 14 to 19.
var (
	_ func(vw, int, int) error                         = queue.Push
	_ func(vw, int) (int, bool)                        = queue.Pop
	_ func(vw, int, int) bool                          = queue.Remove
	_ func(vw, int) []int                              = queue.List
	_ func(vw, int, int, int, int, bool) (bool, error) = endp.Send
	_ func(vw, int, int) (api.Reply, bool, error)      = endp.Recv
	_ func(vw, int, int) error                         = endp.Answer
	_ func(vw, int)                                    = endp.Cancel
	_ func(vw, int, int, int)                          = endp.Block
	_ func(vw, int, int, int)                          = endp.Wake
	_ func(vw, int) int                                = endp.State
	_ func(vw, int) (int, bool)                        = endp.On
	_ func(vw, int, int) error                         = ntfn.Signal
	_ func(vw, int, int) (api.Reply, bool, error)      = ntfn.Wait
	_ func(vw, int) (api.Reply, error)                 = ntfn.Poll
	_ func(vw, int) error                              = tcb.Suspend
	_ func(vw, int) error                              = tcb.Resume
	_ func(vw, int, int) error                         = tcb.Prio
	_ func(vw, int) api.Cap                            = tcb.Root
	_ func(vw, int, api.Cap) error                     = tcb.SetRoot
	_ func(vw) (int, bool)                             = tcb.Highest
	_ func(vw, int, int, int, int) error               = space.Map
	_ func(vw, int) error                              = space.Unmap
	_ func(vw, int, int) (int, int, bool)              = space.Page
	_ func(vw, int, int, int) error                    = irq.Bind
	_ func(vw, int) (bool, error)                      = irq.Fire
	_ func(vw, int) error                              = irq.Ack
)

// Layers 20 to 23.
var (
	_ func(api.Call) bool                                       = call.May
	_ func(api.Call) ([]uint64, error)                          = call.Put
	_ func([]uint64) (api.Call, error)                          = call.Get
	_ func(api.Reply) (int, error)                              = call.Pack
	_ func(int) (api.Reply, error)                              = call.Unpack
	_ func(vw, int, api.Call) (api.Reply, bool)                 = invoke.Do
	_ func(vw, int) (api.Reply, bool)                           = invoke.Woken
	_ func(vw, int) bool                                        = invoke.Ready
	_ func(kernel.Boot) (*kernel.Kernel, error)                 = kernel.New
	_ func(*kernel.Kernel, int) bool                            = (*kernel.Kernel).Pick
	_ func(*kernel.Kernel, int)                                 = (*kernel.Kernel).Raise
	_ func(*kernel.Kernel) []stm.Entry                          = (*kernel.Kernel).Log
	_ func(*kernel.Kernel, int) []api.Reply                     = (*kernel.Kernel).Replies
	_ func(*kernel.Kernel) bool                                 = (*kernel.Kernel).Quiet
	_ func(*kernel.Kernel, int) bool                            = (*kernel.Kernel).Busy
	_ func(*kernel.Kernel) []uint64                             = (*kernel.Kernel).Words
	_ func(*kernel.Kernel) int                                  = (*kernel.Kernel).Marks
	_ func([][]uint64, int) stm.Feed                            = kernel.Feed
	_ func(int) stm.Job                                         = kernel.Fire
	_ func([]int) []api.Reply                                   = kernel.Told
	_                                                           = kernel.Boot{Words: []uint64{}, Limit: uint32(0), Calls: [][][]uint64{}}
	_ func(kernel.Boot, []int, []stm.Entry) (replay.Out, error) = replay.Run
	_ func(kernel.Boot, []int) (*kernel.Kernel, []int, error)   = replay.Picks
	_                                                           = replay.Out{Words: []uint64{}, Replies: [][]api.Reply{}}
)
