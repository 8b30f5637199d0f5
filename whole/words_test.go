package whole

import (
	"testing"

	"padstone/api"
	"padstone/desc"
	"padstone/endp"
	"padstone/kernel"
	"padstone/lay"
)

// rising tells where a list isn't first, first + 1, and so on.
func rising(t *testing.T, what string, first int, l []int) {
	t.Helper()
	for i, n := range l {
		if n != first+i {
			t.Errorf("%s: number %d is %d, want %d", what, i, n, first+i)
		}
	}
}

// Words: the constants' numbers, which words and replies are made of.
func TestConstants(t *testing.T) {
	rising(t, "kinds", 0, []int{api.Null, api.Untyped, api.CNode, api.Endpoint,
		api.Ntfn, api.Thread, api.Frame, api.Space, api.Irq})
	rising(t, "calls", 1, []int{api.OpSend, api.OpRecv, api.OpCall, api.OpReply,
		api.OpSignal, api.OpWait, api.OpPoll, api.OpCopy, api.OpMint, api.OpMove,
		api.OpMutate, api.OpDelete, api.OpRevoke, api.OpRetype, api.OpSuspend,
		api.OpResume, api.OpPrio, api.OpRoot, api.OpMap, api.OpUnmap, api.OpBind,
		api.OpAck})
	rising(t, "states of threads", 0, []int{endp.Stopped, endp.Ready, endp.Sending,
		endp.Receiving, endp.Replying, endp.Waiting, endp.Calling})
	rising(t, "statuses", 0, []int{desc.Open, desc.Done, desc.Failed, desc.Spent})
	rising(t, "what jobs tell", -4, []int{kernel.More, kernel.Blocked, kernel.Again,
		kernel.Spent})
	rising(t, "fields of slots", 0, []int{lay.Word, lay.Parent, lay.First, lay.Next,
		lay.Prev})
	rising(t, "fields of objects", 0, []int{lay.Kind, lay.F1, lay.F2, lay.F3, lay.F4,
		lay.F5, lay.F6, lay.F7})
	if api.CanRead != 1 || api.CanWrite != 2 || api.CanGrant != 4 || api.CanAll != 7 {
		t.Error("rights:", api.CanRead, api.CanWrite, api.CanGrant, api.CanAll)
	}
}

// Words: the limits.
func TestLimits(t *testing.T) {
	const twoTo31 = 2147483648
	got := []int64{api.MaxCells, api.MaxVersion, api.MaxSlots, api.MaxObjs,
		api.MaxThreads, api.AddrBits, api.MaxRadix, api.MaxGuard, api.MaxBadge,
		api.MaxWord, api.MaxPrio, api.MaxPages, api.MaxReads, api.MaxCalls,
		api.MaxPicks}
	for i, want := range []int64{1024, 2*twoTo31 - 1, 96, 32, 8, 16, 5, 8, 65535,
		twoTo31 - 1, 255, 4, 400, 40, 20000} {
		if got[i] != want {
			t.Errorf("limit %d: %d, want %d", i, got[i], want)
		}
	}
}

// Words: the errors, from 1 on, each an error.
func TestErrors(t *testing.T) {
	for i, c := range []api.Code{api.ErrArg, api.ErrNone, api.ErrGuard, api.ErrDepth,
		api.ErrType, api.ErrRights, api.ErrFull, api.ErrTaken, api.ErrChildren,
		api.ErrState, api.ErrVersion, api.ErrMarked, api.ErrLarge, api.ErrMemory} {
		var err error = c
		if int(c) != i+1 || err.Error() == "" {
			t.Errorf("error %d: %d, %q", i+1, int(c), err.Error())
		}
	}
}
