// Package count is layer 3: see shared/doc/03-count.md.
package count

// Meter is how many steps.
type Meter struct {
	reads, calls, starts int
	// taken is of this operation alone; peak is kept with each step, as this operation counts, too.
	taken, peak int
}

func New() *Meter { return &Meter{} }

func (m *Meter) Start() {
	if m == nil {
		return
	}
	m.starts++
	m.taken = 0
}

func (m *Meter) Read() {
	if m == nil {
		return
	}
	m.reads++
	m.step()
}

func (m *Meter) Call() {
	if m == nil {
		return
	}
	m.calls++
	m.step()
}

func (m *Meter) Taken() int {
	if m == nil {
		return 0
	}
	return m.taken
}

func (m *Meter) Reads() int {
	if m == nil {
		return 0
	}
	return m.reads
}

func (m *Meter) Calls() int {
	if m == nil {
		return 0
	}
	return m.calls
}

func (m *Meter) Peak() int {
	if m == nil {
		return 0
	}
	return m.peak
}

func (m *Meter) Starts() int {
	if m == nil {
		return 0
	}
	return m.starts
}

func Sum(l ...*Meter) int {
	n := 0
	for _, m := range l {
		n += m.Reads() + m.Calls()
	}
	return n
}

func Worst(l ...*Meter) int {
	n := 0
	for _, m := range l {
		n = max(n, m.Peak())
	}
	return n
}

func (m *Meter) step() {
	m.taken++
	m.peak = max(m.peak, m.taken)
}
