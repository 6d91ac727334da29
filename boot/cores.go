package boot

import (
	"cmp"
	"slices"
	"sync"

	"keystone/api"
	"keystone/box"
	"keystone/digest"
)

// found is what a core reports.
type found struct {
	core int
	code api.Errno
}

// board is what the cores of one boot share. A core whose image is right leaves
// in its mailbox what it would start on; whether it starts is not for it to say.
type board struct {
	arbiter   arbiter
	parts     []api.Part
	log       box.Box[api.Entry]
	mailboxes []box.Box[api.Start]
}

func newBoard(flash []byte, faults []int, parts []api.Part) *board {
	return &board{
		arbiter:   arbiter{flash: flash, faults: faults},
		parts:     parts,
		mailboxes: make([]box.Box[api.Start], len(parts)),
	}
}

// run lets all cores read and measure, side by side, and gives their codes. The
// channel has room for all reports, so that the cores can end, and be waited
// for, ahead of the first one being taken.
func (b *board) run() []api.Errno {
	reports := make(chan found, len(b.parts))
	var running sync.WaitGroup
	for core := range b.parts {
		running.Add(1)
		go func() {
			defer running.Done()
			reports <- found{core: core, code: b.measure(core)}
		}()
	}
	running.Wait()
	close(reports)
	codes := make([]api.Errno, len(b.parts))
	for f := range reports {
		codes[f.core] = f.code
	}
	return codes
}

// measure is what one core does.
func (b *board) measure(core int) api.Errno {
	part := b.parts[core]
	image, ok := b.arbiter.read(part.Off, part.Len)
	if !ok {
		return api.ErrRead
	}
	measured := digest.Begin().Text(image).End()
	b.log.Put(api.Entry{Core: core, Digest: measured})
	if measured != part.Digest {
		return api.ErrDigest
	}
	b.mailboxes[core].Put(api.Start{Core: core, At: part.At, Image: image})
	return api.OK
}

// entries is the log in the order of cores: in the box they lie as they came.
func (b *board) entries() []api.Entry {
	log := b.log.All()
	slices.SortFunc(log, func(one, other api.Entry) int { return cmp.Compare(one.Core, other.Core) })
	return log
}

// starts is what lies in the mailboxes, in the order of cores.
func (b *board) starts() []api.Start {
	var out []api.Start
	for core := range b.mailboxes {
		out = append(out, b.mailboxes[core].All()...)
	}
	return out
}
