package book

import (
	"slices"

	"potbank/api"
	"potbank/limits"
)

func isDisk(d api.Disk) bool {
	if len(d.Pages) != api.MaxPages || len(d.Wait) > api.MaxWait {
		return false
	}
	for _, w := range d.Wait {
		if !limits.IsBetween(w.At, 0, api.MaxPages-1) {
			return false
		}
	}
	return true
}

// waiting returns a disk on which more writes wait.
func waiting(d api.Disk, more []api.Write) api.Disk {
	return api.Disk{Pages: slices.Clone(d.Pages), Wait: slices.Concat(d.Wait, more)}
}

// New returns a disk whose journal has no records, and its ledger.
func New() (api.Disk, api.Ledger) {
	d := api.Disk{Pages: make([]api.Page, api.MaxPages)}
	d.Pages[0][0] = headOf(1, 0)
	return d, api.Ledger{Epoch: 1, Used: 1}
}

// picked returns the choice among n that the i-th pick makes.
func picked(picks []int, i, n int) int {
	if len(picks) == 0 {
		return 0
	}
	return (picks[i%len(picks)]%n + n) % n
}

// both is the number whose bits say that both halves of a write are made; 0 says that it is lost.
const both = 3

// made returns a disk on which no writes wait, of which those halves were made that the bits of a number say, for each write; d itself if it is not valid.
func made(d api.Disk, bitsOf func(i int) int) api.Disk {
	if !isDisk(d) {
		return waiting(d, nil)
	}
	pages := slices.Clone(d.Pages)
	for i, w := range d.Wait {
		bits := bitsOf(i)
		for n, h := range w.Page {
			if bits>>n&1 == 1 {
				pages[w.At][n] = h
			}
		}
	}
	return api.Disk{Pages: pages}
}

// Sync returns the disk with all waiting writes made; d itself if it is not valid.
func Sync(d api.Disk) api.Disk {
	return made(d, func(i int) int { return both })
}

// Crash returns the disk behind a failure of the power; d itself if it is not valid.
func Crash(d api.Disk, picks []int) api.Disk {
	return made(d, func(i int) int { return picked(picks, i, both+1) })
}
