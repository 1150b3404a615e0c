package file

import (
	"strings"

	"stemma/api"
)

const (
	mark     = "SF"
	filesAt  = 4 // where the head has the number of files
	bitmapAt = 1 // the sector of the bitmap
	entryAt  = 2 // the sector of the first entry
	logSize  = 5 // sectors of the log
)

// plan says where things are on a disk.
type plan struct {
	sectors int // of the disk
	files   int // that there may be
}

// planOf returns the plan of which a head speaks, for a disk of so many sectors.
func planOf(head string, sectors int) plan {
	return plan{sectors, int(head[filesAt])<<8 | int(head[filesAt+1])}
}

// possible reports whether there may be such a plan.
func (p plan) possible() bool {
	return 1 <= p.files && p.files <= api.MaxFiles && p.units() >= 1
}

// head returns what the head's sector begins with.
func (p plan) head() string { return mark + bigEndian(p.sectors) + bigEndian(p.files) }

// bigEndian returns the two bytes of a number, the highest first.
func bigEndian(n int) string { return string([]byte{byte(n >> 8), byte(n)}) }

// entry returns the sector of entry i.
func (p plan) entry(i int) int { return entryAt + i }

// log returns the log's first sector.
func (p plan) log() int { return p.entry(p.files) }

// unit returns the sector of data unit i.
func (p plan) unit(i int) int { return p.log() + logSize + i }

// units returns how many data units there are.
func (p plan) units() int { return p.sectors - p.unit(0) }

// unitsFor returns how many units so many bytes take.
func unitsFor(size int) int { return (size + api.Sector - 1) / api.Sector }

// holds reports whether a sector consists of data, and of bytes 00 behind it.
func holds(sector, data string) bool {
	rest, ok := strings.CutPrefix(sector, data)
	return ok && strings.Trim(rest, "\x00") == ""
}
