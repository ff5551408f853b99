package tile

import (
	"sync"
	"testing"

	"tatting/api"
)

// made returns the blocks of side side.
func made(t *testing.T, side int) *Tiles {
	t.Helper()
	x, e := New(side)
	if e != api.OK || x == nil {
		t.Fatalf("P13.1: New(%d): %v, %d", side, x, e)
	}
	return x
}

// Ways: no block is computed before the first Look, and all of them are by
// it.
func TestFirstLookComputes(t *testing.T) {
	for side := 1; side <= api.MaxSide; side++ {
		for _, eq := range []int{0, -1} {
			x := made(t, side)
			x.Side()
			x.Size()
			if len(x.blocks) != 0 {
				t.Errorf("Ways: side %d: %d blocks ahead of the first Look", side, len(x.blocks))
			}
			x.Look(eq, 0, 0)
			if len(x.blocks) != x.Size() {
				t.Errorf("Ways: side %d: %d blocks after Look(%d, 0, 0)", side, len(x.blocks), eq)
			}
		}
	}
}

// Ways: a later Look computes nothing: it answers what the first one left.
func TestLaterLooksOnlyRead(t *testing.T) {
	for side := 1; side <= api.MaxSide; side++ {
		x := made(t, side)
		x.Look(0, 0, 0)
		for k := range x.blocks {
			x.blocks[k] = 1<<side | 1
		}
		last := 1<<side - 1
		for _, top := range []int{0, last} {
			if bottom, right, e := x.Look(0, top, last-top); bottom != 1 || right != 1 || e != api.OK {
				t.Errorf("Ways: side %d: Look(0, %d, %d) of changed blocks: %d, %d, %d", side, top, last-top, bottom, right, e)
			}
		}
	}
}

// Ways: where several goroutines call Look at the same time, one of them
// computes the blocks, and the others find those.
func TestComputedOnceByMany(t *testing.T) {
	for range 100 {
		x := made(t, api.MaxSide)
		var group sync.WaitGroup
		start := make(chan bool)
		found := make([]*byte, 16)
		for g := range found {
			group.Go(func() {
				<-start
				x.Look(g, 0, 0)
				found[g] = &x.blocks[0]
			})
		}
		close(start)
		group.Wait()
		for g, p := range found {
			if p != found[0] {
				t.Fatalf("Ways: goroutine %d has other blocks than goroutine 0", g)
			}
		}
	}
}
