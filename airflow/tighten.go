package airflow

import (
	"slices"

	"minecontrol/api"
	"minecontrol/window"
)

// Tighten returns the flows as they are known together with measurements at a time, and the sensors whose measurements contradict them.
func Tighten(flows []api.Span, l []api.Sensor, m []api.Measure, time int) ([]api.Span, []int) {
	known, contradicted := slices.Clone(flows), make([]bool, len(flows))
	var against []int
	for _, said := range m {
		if !tellsFlow(l, said, len(flows)) {
			continue
		}
		s := l[said.Sensor]
		if contradicted[s.Target] {
			continue
		}
		// Where there is no number in common, Meet answers that nothing is known.
		met, ok := window.Meet([]api.Span{known[s.Target], window.At(s, said, time)})
		known[s.Target] = met
		if !ok {
			// A sensor is of one road, which then counts no more: so none comes twice.
			contradicted[s.Target] = true
			against = append(against, said.Sensor)
		}
	}
	slices.Sort(against)
	return known, against
}

// tellsFlow reports whether a measurement is that of a sensor which measures the flow of one of so many roads.
func tellsFlow(l []api.Sensor, m api.Measure, roads int) bool {
	return isIndex(m.Sensor, len(l)) && l[m.Sensor].Kind == api.SenseFlow && isIndex(l[m.Sensor].Target, roads)
}
