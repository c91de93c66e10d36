package wal

import (
	"encoding/binary"
	"fmt"
	"hash/crc32"
	"slices"
	"strings"
	"testing"

	"marginalia/api"
	"marginalia/disk"
)

// piece is a cell as it is said: its sector is laid by the library, so that neither package cell nor crc is asked.
type piece struct {
	epoch, life uint64
	part, of    int
	data        string
}

func (p piece) sector() string {
	b := binary.BigEndian.AppendUint64(nil, p.epoch)
	b = binary.BigEndian.AppendUint64(b, p.life)
	b = binary.BigEndian.AppendUint16(b, uint16(p.part))
	b = binary.BigEndian.AppendUint16(b, uint16(p.of))
	b = append(append(b, byte(len(p.data))), p.data...)
	b = append(b, make([]byte, 60-len(b))...)
	return string(binary.BigEndian.AppendUint32(b, crc32.ChecksumIEEE(b)))
}

func pieceOf(sector string) (piece, bool) {
	b := []byte(sector)
	if b[20] > 39 {
		return piece{}, false
	}
	p := piece{
		epoch: binary.BigEndian.Uint64(b),
		life:  binary.BigEndian.Uint64(b[8:]),
		part:  int(binary.BigEndian.Uint16(b[16:])),
		of:    int(binary.BigEndian.Uint16(b[18:])),
		data:  sector[21 : 21+b[20]],
	}
	return p, p.part < p.of && p.sector() == sector
}

// pieces: the sectors of a record.
func pieces(text string, epoch, life uint64) []string {
	var out []string
	of := (len(text) + 38) / 39
	for part := range of {
		data := text[39*part:]
		out = append(out, piece{epoch, life, part, of, data[:min(39, len(data))]}.sector())
	}
	return out
}

// said is a second reading of the chapter: a log's end is worked out of its records, and its region is asked of the disk's dump.
type said struct {
	disk        *disk.Disk
	first, size int
	epoch, life uint64
	records     []string
	broken      bool
}

// region: its sectors as they stand.
func (s *said) region() []string {
	var out []string
	dump := string(s.disk.Dump())
	for i := 4 * s.first; i < 4*(s.first+s.size); i++ {
		out = append(out, dump[64*i:64*i+64])
	}
	return out
}

func saidOpen(d *disk.Disk, first, size int, epoch uint64) (*said, api.Errno) {
	if first < 0 || first >= d.Blocks() || size < 1 || size > d.Blocks() || first+size > d.Blocks() {
		return nil, errArg
	}
	if _, e := d.Read(0); e != ok {
		return nil, errDown
	}
	s := &said{disk: d, first: first, size: size, epoch: epoch}
	lives := []uint64{0}
	for _, sector := range s.region() {
		if p, is := pieceOf(sector); is {
			lives = append(lives, p.life)
		}
	}
	s.life = slices.Max(lives) + 1
	if s.life == 0 {
		return nil, errForm
	}
	s.records = saidRecords(s.region(), epoch, 0)
	return s, ok
}

// saidRecords: the one that begins at the first of the sectors, and those behind it.
func saidRecords(sectors []string, epoch, least uint64) []string {
	if len(sectors) == 0 {
		return nil
	}
	p, is := pieceOf(sectors[0])
	if !is || p.epoch != epoch || p.life < least || p.part != 0 || p.of > len(sectors) {
		return nil
	}
	text := ""
	for _, sector := range sectors[:p.of] {
		q, _ := pieceOf(sector)
		text += q.data
	}
	if !slices.Equal(pieces(text, epoch, p.life), sectors[:p.of]) {
		return nil
	}
	return append([]string{text}, saidRecords(sectors[p.of:], epoch, p.life)...)
}

func (s *said) end() int {
	out := 0
	for _, text := range s.records {
		out += len(pieces(text, 0, 0))
	}
	return out
}

func (s *said) room() int {
	if s == nil || s.broken {
		return 0
	}
	return min(6000, 39*(4*s.size-s.end()))
}

func (s *said) append(text string) api.Errno {
	switch {
	case s == nil, text == "":
		return errArg
	case len(text) > 6000:
		return errLarge
	case s.broken:
		return errDown
	case len(text) > s.room():
		return errFull
	}
	sectors := s.region()
	laid := pieces(text, s.epoch, s.life)
	copy(sectors[s.end():], laid)
	for n := range s.size {
		if 4*n+4 <= s.end() || 4*n >= s.end()+len(laid) {
			continue
		}
		if e := s.disk.Write(s.first+n, []byte(strings.Join(sectors[4*n:4*n+4], ""))); e != ok {
			s.broken = true
			return e
		}
	}
	s.records = append(s.records, text)
	return ok
}

func (s *said) sync() api.Errno {
	switch {
	case s == nil:
		return errArg
	case s.broken:
		return errDown
	}
	e := s.disk.Flush()
	s.broken = e != ok
	return e
}

func (s *said) reset(epoch uint64) api.Errno {
	switch {
	case s == nil:
		return errArg
	case s.broken:
		return errDown
	case epoch <= s.epoch:
		return errArg
	}
	s.epoch, s.records = epoch, nil
	return ok
}

// pair is a disk with up to two logs, and the same as it is said.
type pair struct {
	disk, saidDisk *disk.Disk
	logs           [2]*Log // the newest one first
	said           [2]*said
}

// step is one call on both.
type step struct {
	name string
	do   func(p *pair) (got, want api.Errno)
}

func openOf(first, size int, epoch uint64) step {
	return step{fmt.Sprintf("Open(%d, %d, %d)", first, size, epoch), func(p *pair) (api.Errno, api.Errno) {
		l, e := Open(p.disk, first, size, epoch)
		s, f := saidOpen(p.saidDisk, first, size, epoch)
		p.logs[1], p.said[1] = p.logs[0], p.said[0]
		p.logs[0], p.said[0] = l, s
		return e, f
	}}
}

func appendOf(b []byte) step {
	return step{fmt.Sprintf("Append(%d bytes)", len(b)), func(p *pair) (api.Errno, api.Errno) {
		return p.logs[0].Append(b), p.said[0].append(string(b))
	}}
}

func syncStep() step {
	return step{"Sync", func(p *pair) (api.Errno, api.Errno) { return p.logs[0].Sync(), p.said[0].sync() }}
}

func resetOf(epoch uint64) step {
	return step{fmt.Sprintf("Reset(%d)", epoch), func(p *pair) (api.Errno, api.Errno) {
		return p.logs[0].Reset(epoch), p.said[0].reset(epoch)
	}}
}

// otherStep: from now on the calls are those of the log that was opened ahead.
func otherStep() step {
	return step{"the other one", func(p *pair) (api.Errno, api.Errno) {
		p.logs[0], p.logs[1] = p.logs[1], p.logs[0]
		p.said[0], p.said[1] = p.said[1], p.said[0]
		return ok, ok
	}}
}

// diskStep: what somebody else does to the disk.
func diskStep(name string, do func(d *disk.Disk) api.Errno) step {
	return step{name, func(p *pair) (api.Errno, api.Errno) { return do(p.disk), do(p.saidDisk) }}
}

func fuseOf(k int) step {
	return diskStep(fmt.Sprintf("Fuse(%d)", k), func(d *disk.Disk) api.Errno { d.Fuse(k); return ok })
}

func crashOf(keep []bool) step {
	return diskStep(fmt.Sprintf("Crash(%v)", keep), func(d *disk.Disk) api.Errno { d.Crash(keep); return ok })
}

func writeOf(n int, sectors ...string) step {
	return diskStep(fmt.Sprintf("Write(%d)", n), func(d *disk.Disk) api.Errno {
		return d.Write(n, []byte(strings.Join(sectors, "")))
	})
}

// differ: what a log tells otherwise than it is said; empty: nothing.
func differ(l *Log, s *said) string {
	var epoch, life uint64
	var records []string
	if s != nil {
		epoch, life, records = s.epoch, s.life, s.records
	}
	switch {
	case (l == nil) != (s == nil):
		return "a log, or none"
	case l.Epoch() != epoch || l.Life() != life || l.Room() != s.room():
		return fmt.Sprintf("Epoch %d, Life %d, Room %d, not %d, %d, %d", l.Epoch(), l.Life(), l.Room(), epoch, life, s.room())
	case !slices.Equal(texts(l.Records()), records):
		return fmt.Sprintf("Records of %v bytes, not of %v, or others", sizes(texts(l.Records())), sizes(records))
	}
	return ""
}

func (p *pair) differ() string {
	for i := range p.logs {
		if bad := differ(p.logs[i], p.said[i]); bad != "" {
			return bad
		}
	}
	if p.disk.Pending() != p.saidDisk.Pending() {
		return fmt.Sprintf("%d sectors are pending, not %d", p.disk.Pending(), p.saidDisk.Pending())
	}
	if !slices.Equal(p.disk.Dump(), p.saidDisk.Dump()) {
		return "the disk"
	}
	return ""
}

// run: the steps, one by one, on a fresh disk; what is told is held against what is said behind each of them that is not among the first ones.
func run(t *testing.T, blocks, first int, steps []step) {
	t.Helper()
	p := &pair{disk: fresh(t, blocks), saidDisk: fresh(t, blocks)}
	for i, x := range steps {
		got, want := x.do(p)
		if i < first && got == want {
			continue
		}
		if bad := p.differ(); got != want || bad != "" {
			var names []string
			for _, y := range steps[max(0, i-12) : i+1] {
				names = append(names, y.name)
			}
			t.Fatalf("step %d, behind %s: %d, not %d; %s", i, strings.Join(names, ", "), got, want, bad)
		}
	}
}

// everyScript: all scripts of just so many of the steps, behind those that are ahead.
func everyScript(t *testing.T, blocks int, ahead []step, long int, steps []step) {
	t.Helper()
	script := slices.Clone(ahead)
	var lay func(more int)
	lay = func(more int) {
		if more == 0 {
			run(t, blocks, len(script)-1, script) // shorter ones are scripts of their own
			return
		}
		for _, x := range steps {
			script = append(script, x)
			lay(more - 1)
			script = script[:len(script)-1]
		}
	}
	lay(long)
}

// P17.1, P17.2, P17.3: all short scripts of calls, wrong ones too.
func TestEveryScript(t *testing.T) {
	steps := []step{
		openOf(1, 2, 5), openOf(1, 2, 6), openOf(0, 3, 5), openOf(2, 2, 5),
		appendOf(letters(10)), appendOf(letters(100)), appendOf(letters(157)), appendOf(letters(313)), syncStep(),
		resetOf(6), resetOf(5), fuseOf(0), fuseOf(1),
		crashOf(nil), crashOf(bits("0110")), crashOf(bits("110101101")), crashOf(bits("111111111111111111")),
		otherStep(), writeOf(1, pieces("from outside", 5, 9)[0], none, none, pieces("another epoch", 7, 8)[0]),
	}
	for long := range 4 {
		everyScript(t, 3, nil, long, steps)
	}
	for long := 1; long < 4; long++ {
		everyScript(t, 3, []step{openOf(1, 2, 5), appendOf(letters(20))}, long, steps)
	}
}

// P17.1, P17.2, P17.3: all longer scripts of fewer calls.
func TestEveryLongerScript(t *testing.T) {
	steps := []step{
		openOf(0, 2, 5), appendOf(letters(30)), appendOf(letters(120)), syncStep(), resetOf(6),
		crashOf(bits("01001")), crashOf(bits("11101001")),
	}
	for long := 4; long < 6; long++ {
		everyScript(t, 2, []step{openOf(0, 2, 5)}, long, steps)
	}
}

// chance: numbers by a plain rule.
type chance uint32

func (c *chance) below(n int) int {
	*c = *c*1664525 + 1013904223
	return int(*c>>8) % n
}

func (c *chance) list(many int) []bool {
	out := make([]bool, c.below(many+1))
	for i := range out {
		out[i] = c.below(4) > 0
	}
	return out
}

// bytes: mostly few of them.
func (c *chance) bytes(most int) []byte {
	if c.below(4) > 0 {
		most = min(most, 120)
	}
	out := make([]byte, c.below(most+1))
	for i := range out {
		out[i] = byte(c.below(256))
	}
	return out
}

// sectors: four that somebody else writes: cells that may be of the log, and what are none.
func (c *chance) sectors(epoch uint64) []string {
	var out []string
	for range 4 {
		sector := piece{epoch + uint64(c.below(3)), uint64(c.below(9)), c.below(2), 1 + c.below(3), string(c.bytes(39))}.sector()
		if c.below(4) == 0 {
			sector = none
		}
		out = append(out, sector)
	}
	return out
}

// anyStep: one that is mostly an append.
func (c *chance) anyStep(first, size int, epoch uint64) step {
	switch which := c.below(100); {
	case which < 45:
		return appendOf(c.bytes(39 * 4 * size))
	case which < 60:
		return syncStep()
	case which < 75:
		return openOf(first, size, epoch)
	case which < 78:
		return resetOf(epoch + uint64(c.below(3)))
	case which < 82:
		return fuseOf(c.below(8) - 1)
	case which < 95:
		return crashOf(c.list(40))
	case which < 97:
		return otherStep()
	case which < 98:
		return openOf(first+c.below(3)-1, size+c.below(3)-1, epoch+uint64(c.below(3)))
	}
	return writeOf(first+c.below(size), c.sectors(epoch)...)
}

// P17.1, P17.2, P17.3: long scripts of all calls, on regions of some sizes.
func TestLongScripts(t *testing.T) {
	for seed := range 150 {
		c := chance(seed)
		first, size := seed%3, 1+seed%7
		steps := []step{openOf(first, size, 3)}
		for i := range 150 {
			steps = append(steps, c.anyStep(first, size, 3+uint64(i/40)))
		}
		run(t, first+size+1, 0, steps)
	}
}

// P17.1: long records in a great region: as much as a record may have, and more.
func TestLongRecords(t *testing.T) {
	for seed := range 8 {
		c := chance(seed)
		steps := []step{openOf(2, 90, 1)}
		for range 30 {
			b := make([]byte, 5000+c.below(1100))
			copy(b, c.bytes(200))
			steps = append(steps, appendOf(b))
			switch c.below(8) {
			case 0:
				steps = append(steps, syncStep())
			case 1:
				steps = append(steps, openOf(2, 90, 1))
			case 2:
				steps = append(steps, crashOf(c.list(2000)), openOf(2, 90, 1))
			case 3:
				steps = append(steps, fuseOf(c.below(100)))
			}
		}
		run(t, 93, 0, steps)
	}
}
