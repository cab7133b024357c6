package crc

import "testing"

// What a table knows is made when it is first asked for, and no second time: what stands there then is what it goes by.
func TestMadeOnce(t *testing.T) {
	for name, ask := range map[string]func(*Table){
		"Next": func(t *Table) { t.Next(0, 0) },
		"Sum":  func(t *Table) { t.Sum("a") },
	} {
		table := New()
		if table.steps != [256]uint32{} {
			t.Errorf("%s: made ahead of the first call", name)
		}
		ask(table)
		if table.steps[1] != 0x77073096 || table.steps[128] != 0xedb88320 || table.steps[255] != 0x2d02ef8d {
			t.Errorf("%s: not made by the first call", name)
		}
		table.steps[1] = 7
		ask(table)
		if table.Next(0, 1) != 7 {
			t.Errorf("%s: made a second time", name)
		}
	}
}
