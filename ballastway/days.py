"""Days as they are run: the carts that are sent, their trips, and the log of what happens."""

from ballastway.crossing import clear_at, driven
from ballastway.fractions import common_beneath, parts_in, whole
from ballastway.parting import parted
from ballastway.roads import bridges_of
from ballastway.watch import watched
from ballastway.ways import legs_of

# In this order they stand at one time.
WORDS = ("off", "end", "start", "come", "on")


def carts_sent(day):
    sent = []
    for send in day.sends:
        carts = parted(day.road, day.loads[send[0]], send[2])
        sent.extend([(cart, send[2], whole(send[1])) for cart in carts])
    return sent


def run(day):
    return watched(day.road, carts_sent(day))


def comings_of(road, trip):
    comings = []
    place = 0
    moment = trip.start
    for leg, crossing in zip(legs_of(road, trip.way), trip.crossings):
        comings.append(driven(moment, leg[1] - place, trip.cart.speed))
        place = leg[1]
        moment = crossing[1]
    return comings


def trip_log(road, number, trip):
    log = [(trip.start, "start", number, ""), (trip.ended, "end", number, "")]
    for coming, crossing in zip(comings_of(road, trip), trip.crossings):
        log.append((coming, "come", number, crossing[0]))
        log.append((crossing[1], "on", number, crossing[0]))
        log.append((clear_at(road, crossing), "off", number, crossing[0]))
    return log


def in_log_order(road, log):
    # Times over one number beneath are put in order as whole numbers.
    unit = common_beneath([told[0] for told in log])
    names = [""] + [bridge.name for bridge in bridges_of(road)]
    return sorted(log, key=lambda told: (parts_in(told[0], unit), WORDS.index(told[1]), told[2], names.index(told[3])))


def log_of(day):
    log = []
    for number, trip in enumerate(run(day)):
        log.extend(trip_log(day.road, number, trip))
    return in_log_order(day.road, log)


def replayed(day, log):
    return log == log_of(day)
